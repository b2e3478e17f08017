package checker

import "prologue/api"

// state of the code's side while a block is gone through. source: what the program's block does; what is seen of it is taken away piece by piece. begins: it is block 0, with which none of the program's goes; else last is how the program's ends. depth: how far SP is above the frame's lowest cell, from which cells are counted.
type state struct {
	function
	source        source
	begins        bool
	last          api.Ins
	depth         int
	has           content
	stores, calls int
}

// first: where block 0 begins.
func (f function) first() *state {
	src := source{function: f, terms: book{}, locals: f.localsAtFirst()}
	return &state{function: f, source: src, begins: true, depth: f.frame.Size, has: f.arrived()}
}

// behind the first block: where one begins that goes with this one of the program.
func (f function) behind(list []api.Ins) *state {
	src := source{function: f, terms: book{}, locals: f.localsAtBlock()}
	has := f.standing(src.locals)
	src.run(list)
	return &state{function: f, source: src, last: list[len(list)-1], has: has}
}

func (s *state) isRight(list []api.Move) bool {
	if len(list) == 0 {
		return false
	}
	last := len(list) - 1
	for _, m := range list[:last] {
		if !s.step(m) {
			return false
		}
	}
	return s.ends(list[last])
}

// mayName: whether there is such a register, and code may name it.
func (s *state) mayName(r int) bool { return r >= 0 && r < s.t.Regs && r != s.t.SP }

func (s *state) in(r int) term { return s.has[register(r)] }

func (s *state) set(r int, x term) bool {
	if !s.mayName(r) {
		return false
	}
	s.has[register(r)] = x
	return true
}

// next thing that is seen of the program, if it is of this kind.
func (s *state) next(op int) (sight, bool) {
	seen := s.source.seen
	if len(seen) == 0 || seen[0].op != op {
		return sight{}, false
	}
	s.source.seen = seen[1:]
	return seen[0], true
}
