package checker

import (
	"prologue/api"
	"prologue/layout"
	"prologue/program"
)

// source: what a block of the program does, by terms. The two sides share the book.
type source struct {
	function
	terms         book
	locals        []term
	seen          []sight
	stores, calls int
}

// sight: what is seen of a block: a store, or a call of something that is called so and takes these arguments, word by word.
type sight struct {
	op     int // api.Store, or api.Call or api.Ext
	store  store
	f      int
	layout api.Layout
	args   [][]term
}

// store of a term into a slot.
type store struct {
	slot, at, width int
	what            term
}

func (s *source) run(list []api.Ins) {
	for _, i := range list {
		s.step(i)
	}
}

func (s *source) step(i api.Ins) {
	switch i.Op {
	case api.Const:
		s.locals[i.D] = numberOf(i.N)
	case api.Copy:
		s.locals[i.D] = s.locals[i.A]
	case api.Load:
		s.locals[i.D] = s.word(i.A, i.B, int(i.N))
	case api.Store:
		s.seen = append(s.seen, sight{op: api.Store, store: store{i.A, i.B, int(i.N), s.locals[i.D]}})
		s.stores++
	case api.Call, api.Ext:
		s.call(i.Op, i)
	case api.Tail:
		if !s.isJump(i) {
			s.call(api.Call, i)
		}
	case api.Goto, api.If, api.Return, api.Trap:
		// what these do is asked of the code's last instruction
	default:
		s.locals[i.D] = s.terms.operation(i.Op, s.locals[i.A], s.locals[i.B])
	}
}

// word that a slot has now.
func (s *source) word(slot, at, width int) term {
	return term{kind: inSlot, a: slot, b: at, c: width, d: s.stores}
}

func (s *source) call(op int, i api.Ins) {
	s.seen = append(s.seen, sight{op: op, f: i.F, layout: s.layoutOf(i), args: s.words(i.Args)})
	for k, out := range i.Outs {
		s.locals[out] = term{kind: result, a: s.calls, b: k}
	}
	s.calls++
}

// words of arguments.
func (s *source) words(args []api.Arg) [][]term {
	all := make([][]term, len(args))
	for k, a := range args {
		if a.Words == 0 {
			all[k] = []term{s.locals[a.From]}
			continue
		}
		for n := range a.Words {
			all[k] = append(all[k], s.word(a.From, 8*n, 8))
		}
	}
	return all
}

// layoutOf what an instruction calls.
func (f function) layoutOf(i api.Ins) api.Layout {
	s, _ := program.Callee(f.p, i)
	return layout.Of(f.t, s)
}

func (f function) isJump(tail api.Ins) bool {
	return layout.IsJump(f.t, f.sig, program.Sig(f.p.Funcs[tail.F]))
}
