package machine

import "prologue/api"

// position of an instruction in the code.
type position struct{ f, block, at int }

// calls of the code: the positions behind them, where each goes on once it has come back, and the number that each of these has. The first one is 1, as a return to 0 is the end.
type calls struct {
	behind  []position
	numbers map[position]uint64
}

func callsOf(c api.Code) calls {
	l := calls{numbers: map[position]uint64{}}
	for f, blocks := range c.Funcs {
		for block, moves := range blocks {
			for at, i := range moves {
				if i.Op == api.Calls {
					behind := position{f, block, at + 1}
					l.behind = append(l.behind, behind)
					l.numbers[behind] = uint64(len(l.behind))
				}
			}
		}
	}
	return l
}

// call a function, which is to come back to this number.
func (m *machine) call(f int, number uint64) bool {
	return m.isAligned() && m.putNumber(number) && m.enter(f)
}

func (m *machine) isAligned() bool {
	if m.sp()%uint64(m.t.Align) != 0 {
		m.fault(api.FaultAlign)
		return false
	}
	return true
}

func (m *machine) putNumber(number uint64) bool {
	if m.t.Link != -1 {
		return m.set(m.t.Link, number)
	}
	return m.setSP(m.sp()-8) && m.store(m.sp(), 8, number)
}

func (m *machine) takeNumber() (uint64, bool) {
	if m.t.Link != -1 {
		return m.regs[m.t.Link], true
	}
	number, ok := m.load(m.sp(), 8)
	return number, ok && m.setSP(m.sp()+8)
}

func (m *machine) enter(f int) bool {
	if !isIndex(f, len(m.code.Funcs)) {
		m.fault(api.FaultCode)
		return false
	}
	m.next = position{f: f}
	return true
}
