package checker

import (
	"slices"

	"prologue/api"
)

// call: it must be the next thing that is seen. What was called may have changed all but what it must keep.
func (s *state) call(op, f int) bool {
	x, ok := s.next(op)
	if !ok || x.f != f || s.depth != 0 || !s.argumentsStand(x.layout, x.args, 0) {
		return false
	}
	s.forget(x.layout.Size)
	for k, p := range x.layout.Results {
		s.has[p] = term{kind: result, a: s.calls, b: k}
	}
	s.calls++
	return true
}

func (s *state) forget(area int) {
	for r := range s.t.Regs {
		if !slices.Contains(s.t.Saves, r) {
			delete(s.has, register(r))
		}
	}
	for at := 0; at < area; at += 8 {
		delete(s.has, cell(at))
	}
}

// argumentsStand: whether all words of arguments are where a layout has them, its cells being counted from area on.
func (s *state) argumentsStand(l api.Layout, args [][]term, area int) bool {
	for k, spot := range l.Args {
		if spot.Ref {
			if !s.copyStands(s.has[shifted(spot.Places[0], area)], args[k]) {
				return false
			}
			continue
		}
		if !s.wordsStand(spot.Places, args[k], area) {
			return false
		}
	}
	return true
}

func (s *state) wordsStand(places []api.Place, words []term, area int) bool {
	for k, p := range places {
		if s.has[shifted(p, area)] != words[k] {
			return false
		}
	}
	return true
}

// copyStands: whether this is an address in the frame's copies, and the words stand there. Elsewhere what is called, or the function itself, might write over them.
func (s *state) copyStands(x term, words []term) bool {
	begin, end := s.frame.Out, s.frame.Out+s.frame.Copies
	if x.kind != address || x.a < begin || x.a%8 != 0 || x.a+8*len(words) > end {
		return false
	}
	for k, word := range words {
		if s.has[cell(x.a+8*k)] != word {
			return false
		}
	}
	return true
}
