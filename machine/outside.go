package machine

import (
	"slices"

	"prologue/api"
)

// ask somebody outside, who tells what the script says next, and leaves behind no more than must be kept.
func (m *machine) ask(i api.Move) {
	if !m.isAligned() {
		return
	}
	if !isIndex(i.F, len(m.others)) {
		m.fault(api.FaultCode)
		return
	}
	l := m.others[i.F]
	words, ok := m.words(m.code.Externs[i.F], l)
	if !ok {
		return
	}
	m.out.Trace = append(m.out.Trace, api.Event{F: i.F, Words: words})
	if m.spoil(l.Size) {
		m.answer(l.Results)
	}
}

// words of all arguments, one behind the other.
func (m *machine) words(s api.Sig, l api.Layout) ([]uint64, bool) {
	var all []uint64
	for k, spot := range l.Args {
		for n := range max(s.Params[k], 1) {
			v, ok := m.wordOf(spot, n)
			if !ok {
				return nil, false
			}
			all = append(all, v)
		}
	}
	return all, true
}

func (m *machine) wordOf(spot api.Spot, n int) (uint64, bool) {
	if !spot.Ref {
		return m.read(spot.Places[n])
	}
	at, ok := m.read(spot.Places[0])
	if !ok {
		return 0, false
	}
	return m.load(at+uint64(8*n), 8)
}

// spoil all that is not to be kept, with numbers that tell which time it was.
func (m *machine) spoil(size int) bool {
	base := 65536 * uint64(len(m.out.Trace))
	for r := range m.t.Regs {
		if r != m.t.SP && !slices.Contains(m.t.Saves, r) {
			m.regs[r] = base + uint64(r)
		}
	}
	for at := 0; at < size; at += 8 {
		if !m.store(m.sp()+uint64(at), 8, base+1000+uint64(at)) {
			return false
		}
	}
	return true
}

// answer asks for no end of the run: cells of results are in the area, which was just written.
func (m *machine) answer(results []api.Place) {
	told := make([]uint64, len(results))
	n := copy(told, m.script)
	m.script = m.script[n:]
	for k, p := range results {
		m.write(p, told[k])
	}
}
