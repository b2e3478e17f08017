// Package machine: code is run.
package machine

import (
	"prologue/api"
	"prologue/layout"
	"prologue/memory"
)

// maxRegs: no table has more registers.
const maxRegs = 16

// machine at work. out tells what was seen of it so far; its Kind is 0 until the run ends.
type machine struct {
	t      api.Table
	code   api.Code
	does   deeds
	calls  calls
	next   position
	regs   [maxRegs]uint64
	stack  memory.Bytes
	own    api.Layout      // of the call that the run begins with
	atCall [maxRegs]uint64 // what the registers had then
	others []api.Layout    // of the code's Externs
	script []uint64
	out    api.Outcome
}

// newMachine: its stack and registers are full of numbers that no code has a right to lean on, but that are the same in each run.
func newMachine(t api.Table, c api.Code, script []uint64, stack int) *machine {
	m := &machine{t: t, code: c, does: allDeeds(), calls: callsOf(c), script: script, stack: make(memory.Bytes, stack)}
	for r := range m.regs {
		m.regs[r] = uint64(7000 + r)
	}
	for _, s := range c.Externs {
		m.others = append(m.others, layout.Of(t, s))
	}
	for i := range m.stack {
		m.stack[i] = byte(7*i + 3)
	}
	return m
}

func (m *machine) spend(steps int) {
	for m.out.Kind == 0 && m.out.Steps < steps {
		m.out.Steps++
		m.step()
	}
	if m.out.Kind == 0 {
		m.end(api.Spent)
	}
}

func (m *machine) step() {
	i := m.fetch()
	if !m.knows(i) {
		m.fault(api.FaultCode)
		return
	}
	m.next.at++
	m.does[i.Op](m, i)
}

// fetch: where there is no such block, or it has come to its end, this is an instruction that no machine knows.
func (m *machine) fetch() api.Move {
	blocks := m.code.Funcs[m.next.f]
	if !isIndex(m.next.block, len(blocks)) || m.next.at >= len(blocks[m.next.block]) {
		return api.Move{}
	}
	return blocks[m.next.block][m.next.at]
}

func (m *machine) end(kind int, values ...uint64) {
	m.out.Kind, m.out.Values = kind, values
}

func (m *machine) fault(code int) {
	m.end(api.Fault)
	m.out.Code = code
}

func (m *machine) sp() uint64 { return m.regs[m.t.SP] }

// set a register; as any of the following, it tells false where the run ends by it.
func (m *machine) set(r int, v uint64) bool {
	if r == m.t.SP {
		return m.setSP(v)
	}
	m.regs[r] = v
	return true
}

func (m *machine) setSP(v uint64) bool {
	at, size := int64(v), int64(len(m.stack))
	switch {
	case at < 0:
		m.end(api.Full)
		return false
	case at > size:
		m.fault(api.FaultSpace)
		return false
	}
	m.regs[m.t.SP] = v
	m.out.Peak = max(m.out.Peak, int(size-at))
	return true
}

// reaches: a width that is none comes first, whatever the address.
func (m *machine) reaches(at uint64, width int) bool {
	switch {
	case !memory.IsWidth(width):
		m.fault(api.FaultSpace)
	case int64(at) < 0:
		m.end(api.Full)
	case int64(at) > int64(len(m.stack)-width):
		m.fault(api.FaultSpace)
	default:
		return true
	}
	return false
}

func (m *machine) load(at uint64, width int) (uint64, bool) {
	if !m.reaches(at, width) {
		return 0, false
	}
	v, err := m.stack.Load(int(at), width)
	return v, err == nil
}

func (m *machine) store(at uint64, width int, v uint64) bool {
	return m.reaches(at, width) && m.stack.Store(int(at), width, v) == nil
}

// read what stands in a place; cells are counted from the stack pointer.
func (m *machine) read(p api.Place) (uint64, bool) {
	if p.Reg == -1 {
		return m.load(m.sp()+uint64(p.At), 8)
	}
	return m.regs[p.Reg], true
}

func (m *machine) write(p api.Place, v uint64) bool {
	if p.Reg == -1 {
		return m.store(m.sp()+uint64(p.At), 8, v)
	}
	return m.set(p.Reg, v)
}

func isIndex(k, count int) bool { return k >= 0 && k < count }
