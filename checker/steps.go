package checker

import (
	"prologue/api"
	"prologue/memory"
)

// farthest that an instruction may reach from SP, or move it.
const farthest = 1048576

// step: an instruction ahead of the last one. It tells whether this one may stand here.
func (s *state) step(m api.Move) bool {
	switch m.Op {
	case api.Li:
		return s.set(m.R, numberOf(uint64(m.N)))
	case api.Mov:
		return s.mayName(m.A) && s.set(m.R, s.in(m.A))
	case api.Add, api.Sub, api.Mul, api.And, api.Xor, api.Less, api.Same:
		return s.mayName(m.A) && s.mayName(m.B) && s.set(m.R, s.source.terms.operation(m.Op, s.in(m.A), s.in(m.B)))
	case api.Ld:
		return s.load(m)
	case api.St:
		return s.mayName(m.R) && s.save(m)
	case api.Ldx:
		return s.mayName(m.A) && s.fetch(m)
	case api.Lea:
		return isReach(m.N) && s.set(m.R, term{kind: address, a: s.depth + int(m.N)})
	case api.Sp:
		return m.N >= -farthest && m.N <= farthest && s.move(int(m.N))
	case api.Calls:
		return s.call(api.Call, m.F)
	case api.Exts:
		return s.call(api.Ext, m.F)
	}
	return false
}

func (s *state) move(by int) bool {
	s.depth += by
	return s.depth >= 0 && s.depth <= s.frame.Size
}

func isReach(n int64) bool { return n >= 0 && n <= farthest }

// reach: where the bytes begin that a load or a store speaks of, if it may speak of them.
func (s *state) reach(m api.Move) (int, bool) {
	if !isReach(m.N) || !memory.IsWidth(m.W) {
		return 0, false
	}
	at := s.depth + int(m.N)
	return at, at+m.W <= s.frame.In+s.own.Size
}

// slotAt: which slot a byte of the frame is in, and where there. In block 0 slots are cells like others: there they get what they have at first.
func (s *state) slotAt(at int) (slot, from int, ok bool) {
	if s.begins {
		return 0, 0, false
	}
	for k, begin := range s.frame.Slots {
		if at >= begin && at < begin+8*s.f.Slots[k] {
			return k, at - begin, true
		}
	}
	return 0, 0, false
}

func isCell(at, width int) bool { return width == 8 && at%8 == 0 }

func (s *state) load(m api.Move) bool {
	at, ok := s.reach(m)
	if !ok {
		return false
	}
	if slot, from, ok := s.slotAt(at); ok {
		return from%m.W == 0 && s.set(m.R, term{kind: inSlot, a: slot, b: from, c: m.W, d: s.stores})
	}
	return isCell(at, m.W) && s.set(m.R, s.has[cell(at)])
}

func (s *state) save(m api.Move) bool {
	at, ok := s.reach(m)
	if !ok {
		return false
	}
	if slot, from, ok := s.slotAt(at); ok {
		return from%m.W == 0 && s.store(store{slot, from, m.W, s.in(m.R)})
	}
	if !isCell(at, m.W) {
		return false
	}
	s.has[cell(at)] = s.in(m.R)
	return true
}

// store into a slot: it must be the next thing that is seen.
func (s *state) store(x store) bool {
	next, ok := s.next(api.Store)
	s.stores++
	return ok && next.store == x
}

// fetch a word of a copy by its address.
func (s *state) fetch(m api.Move) bool {
	x := s.in(m.A)
	if x.kind != lent || m.N < 0 || m.N%8 != 0 || m.N >= int64(8*s.sig.Params[x.a]) {
		return false
	}
	return s.set(m.R, term{kind: argument, a: x.a, b: int(m.N / 8)})
}
