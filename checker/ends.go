package checker

import "prologue/api"

// ends: whether this may be the last instruction of the block.
func (s *state) ends(m api.Move) bool {
	if s.begins {
		return m.Op == api.Jump && m.A == 1 && s.stands() && s.has.hasAll(s.slotsAtFirst())
	}
	if len(s.source.seen) > 0 {
		return false
	}
	i := s.last
	switch i.Op {
	case api.Goto:
		return m.Op == api.Jump && m.A == i.A+1 && s.stands()
	case api.If:
		return m.Op == api.Fork && m.A == i.A+1 && m.B == i.B+1 && s.mayName(m.R) && s.in(m.R) == s.source.locals[i.D] && s.stands()
	case api.Return:
		return m.Op == api.Ret && s.isLeft() && s.gives(s.valuesOf(i.Outs))
	case api.Tail:
		return s.endsByTail(i, m)
	case api.Trap:
		return m.Op == api.Stop && uint64(m.N) == i.N
	}
	return false
}

func (s *state) stands() bool { return s.depth == 0 && s.has.hasAll(s.standing(s.source.locals)) }

func (s *state) isLeft() bool { return s.depth == s.frame.Size && s.has.hasAll(s.kept()) }

func (s *state) valuesOf(locals []int) []term {
	l := make([]term, len(locals))
	for k, n := range locals {
		l[k] = s.source.locals[n]
	}
	return l
}

// gives: whether the function's results are these.
func (s *state) gives(values []term) bool {
	return s.wordsStand(s.own.Results, values, s.frame.In)
}

// endsByTail: where it is no jump, the call was seen already, as the last thing of all, and what it gave goes on.
func (s *state) endsByTail(i api.Ins, m api.Move) bool {
	if s.isJump(i) {
		return m.Op == api.Leap && m.F == i.F && s.isLeft() && s.argumentsStand(s.layoutOf(i), s.source.words(i.Args), s.frame.In)
	}
	values := make([]term, s.f.Results)
	for k := range values {
		values[k] = term{kind: result, a: s.calls - 1, b: k}
	}
	return m.Op == api.Ret && s.isLeft() && s.gives(values)
}
