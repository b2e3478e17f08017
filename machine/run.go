package machine

import (
	"prologue/api"
	"prologue/layout"
	"prologue/program"
	"prologue/table"
)

// Run the function f of code, on a stack of so many bytes.
func Run(t api.Table, c api.Code, f int, args, script []uint64, stack, steps int) (api.Outcome, error) {
	if err := table.Check(t); err != nil {
		return api.Outcome{}, err
	}
	if !sigsFit(c) || !isIndex(f, len(c.Funcs)) || len(args) != program.WordCount(c.Sigs[f]) {
		return api.Outcome{}, api.ErrArg
	}
	if !isStack(stack) || steps < 0 || steps > api.MaxSteps {
		return api.Outcome{}, api.ErrArg
	}
	m := newMachine(t, c, script, stack)
	if m.lay(c.Sigs[f], args) && m.call(f, 0) {
		m.spend(steps)
	}
	return m.out, nil
}

func sigsFit(c api.Code) bool {
	return len(c.Sigs) == len(c.Funcs) && allFit(c.Sigs) && allFit(c.Externs)
}

func allFit(sigs []api.Sig) bool {
	for _, s := range sigs {
		if !program.SigFits(s) {
			return false
		}
	}
	return true
}

func isStack(size int) bool { return size >= 0 && size <= api.MaxStack && size%32 == 0 }

// lay the words of the arguments, one behind the other, where what is called looks for them. A stack that is too small ends the run.
func (m *machine) lay(s api.Sig, words []uint64) bool {
	m.own = layout.Of(m.t, s)
	room := roundUp(m.own.Size+m.own.Copies, m.t.Align)
	if !m.setSP(uint64(len(m.stack) - room)) {
		return false
	}
	for k, spot := range m.own.Args {
		n := max(s.Params[k], 1)
		m.layOne(spot, words[:n])
		words = words[n:]
	}
	m.atCall = m.regs
	return true
}

// layOne asks for no end of the run: all of this is in the room that was taken.
func (m *machine) layOne(spot api.Spot, words []uint64) {
	if spot.Ref {
		at := m.sp() + uint64(m.own.Size+spot.At)
		for k, v := range words {
			m.store(at+uint64(8*k), 8, v)
		}
		words = []uint64{at}
	}
	for k, p := range spot.Places {
		m.write(p, words[k])
	}
}

// finish: the run's own call has come back.
func (m *machine) finish() {
	if !m.isKept() {
		m.fault(api.FaultKept)
		return
	}
	var values []uint64
	for _, p := range m.own.Results {
		v, _ := m.read(p)
		values = append(values, v)
	}
	m.end(api.Done, values...)
}

func (m *machine) isKept() bool {
	for _, r := range m.t.Saves {
		if m.regs[r] != m.atCall[r] {
			return false
		}
	}
	return m.sp() == m.atCall[m.t.SP]
}

func roundUp(n, unit int) int { return (n + unit - 1) / unit * unit }
