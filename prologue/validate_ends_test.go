package prologue_test

import (
	"testing"

	"prologue/api"
)

// all ends of a block.
var allEnds = []api.Move{jump(0), jump(1), jump(2), jump(3), jump(-1), fork(0, 1, 2), fork(5, 2, 1), fork(0, 2, 2), ret(), leap(0), leap(1), leap(2), stop(0), stop(7)}

// endsBy: a block's last instruction is this one, and no other one, be all its numbers the same.
func (k trial) endsBy(block int, right api.Move) {
	k.Helper()
	at := len(k.code[block]) - 1
	for _, m := range allEnds {
		if m != right {
			k.refuses("another end", put(block, at, m))
		}
	}
	for op := range api.Stop + 2 {
		if op != right.Op {
			m := right
			m.Op = op
			k.refuses("another end with the same numbers", put(block, at, m))
		}
	}
}

// looping: the frame by T has the cells 0 and 8, the register 5 at 16, Size 24.
func looping(t *testing.T, last api.Ins, m api.Move) trial {
	p := api.Program{Funcs: []api.Func{{Params: words(2), Homes: []int{5, -1}, Blocks: [][]api.Ins{
		{sets(1, 3), last},
		{sets(0, 0), {Op: api.Trap, N: 7}},
	}}}}
	return tried(t, tableT(), p, []api.Move{sp(-24), st(5, 16, 8), mov(5, 0), st(1, 8, 8), jump(1)}, []api.Move{li(9, 3), st(9, 8, 8), m}, []api.Move{li(5, 0), stop(7)})
}

// all must stand: where a block goes on with another one.
func (k trial) stands() {
	k.Helper()
	k.refuses("a local is not what it is", drop(1, 1))
	k.refuses("a local has another number", put(1, 0, li(9, 4)))
	k.refuses("a local in a register is another one", add(1, 2, li(5, 3)))
	k.refuses("what is kept is written over", add(1, 2, st(9, 16, 8)))
	k.refuses("the return address is written over", add(1, 2, st(9, 24, 8)))
	k.refuses("a register that must be kept", add(1, 2, mov(6, 9)))
	k.refuses("another register that must be kept", add(1, 2, mov(7, 6)))
	for _, by := range []int64{1, 8, 24} {
		k.refuses("at another depth", add(1, 2, sp(by)))
	}
	k.takes("all back", add(1, 2, mov(9, 5), ld(5, 16, 8), st(6, 16, 8), mov(6, 7), mov(7, 6), ld(6, 16, 8), st(5, 16, 8), mov(5, 9)))
	k.takes("what nothing is asked of", add(1, 2, st(9, 0, 8), li(0, 1), li(1, 1), li(8, 1), li(10, 1)))
	k.takes("a local's home, and back", add(1, 2, mov(10, 5), li(5, 1), mov(5, 10)))
}

func TestP14Goto(t *testing.T) {
	k := looping(t, goes(1), jump(2))
	k.stands()
	k.endsBy(1, jump(2))
	k = looping(t, goes(0), jump(1))
	k.endsBy(1, jump(1))
	k.stands()
}

func TestP14If(t *testing.T) {
	k := looping(t, forks(0, 1, 0), fork(5, 2, 1))
	k.stands()
	k.endsBy(1, fork(5, 2, 1))
	k.takes("by another register", put(1, 2, mov(10, 5), fork(10, 2, 1)))
	k.refuses("by another local", put(1, 2, ld(10, 8, 8), fork(10, 2, 1)))
	k.refuses("by what it was made of", put(1, 2, fork(9, 2, 1)))
	k.refuses("by what is unknown", put(1, 2, fork(0, 2, 1)))
	k.refuses("by no register, though the cell 0 has the local", put(1, 2, st(5, 0, 8), fork(-1, 2, 1)))
	k.refuses("the other way", put(1, 2, fork(5, 1, 2)))
	k.refuses("the first one twice", put(1, 2, fork(5, 2, 2)))
	k.refuses("the second one twice", put(1, 2, fork(5, 1, 1)))
	k.refuses("the program's own numbers", put(1, 2, fork(5, 1, 0)))
	k.refuses("a number", put(1, 2, li(10, 1), fork(10, 2, 1)))
	k = looping(t, forks(1, 0, 1), fork(9, 1, 2))
	k.takes("a local in a cell", put(1, 2, ld(10, 8, 8), fork(10, 1, 2)))
	k.takes("a number that is the same", put(1, 2, li(10, 3), fork(10, 1, 2)))
	k.refuses("a number that is as much not 0", put(1, 2, li(10, 1), fork(10, 1, 2)))
	k.refuses("another local", put(1, 2, fork(5, 1, 2)))
	k.refuses("no branch", put(1, 2, jump(1)))
	k = looping(t, forks(1, 1, 1), fork(9, 2, 2))
	k.refuses("no branch, though both are the same", put(1, 2, jump(2)))
}

// Trap: nothing must stand, but all that is seen must have been.
func TestP14Trap(t *testing.T) {
	k := looping(t, api.Ins{Op: api.Trap, N: 7}, stop(7))
	k.endsBy(1, stop(7))
	k.endsBy(2, stop(7))
	k.takes("nothing stands", whole(1, li(5, 1), li(6, 1), li(7, 1), st(5, 8, 8), st(5, 16, 8), st(5, 24, 8), sp(16), stop(7)))
	k.takes("at once", whole(1, stop(7)))
	k.refuses("another number", put(1, 2, stop(-7)))
	// the frame by T has the slot 0, Size 8
	p := api.Program{Externs: []api.Sig{sig(0)}, Funcs: []api.Func{{Slots: []int{1}, Homes: []int{}, Blocks: [][]api.Ins{{asked(0, nil), {Op: api.Trap}}}}}}
	k = tried(t, tableT(), p, []api.Move{sp(-8), li(9, 0), st(9, 0, 8), jump(1)}, []api.Move{exts(0), stop(0)})
	k.refuses("without what is seen", drop(1, 0))
	k.refuses("with more", add(1, 1, exts(0)))
}

// Return: the frame is left, and the results are where P9 says.
func TestP14Return(t *testing.T) {
	// by T results are in 0, 1 and the area's cells 0 and 8. The frame has the cells 0 and 8, the register 5 at 16, Size 24, In 32
	p := api.Program{Funcs: []api.Func{{Params: words(2), Results: 4, Homes: []int{5, -1}, Blocks: [][]api.Ins{{gives(0, 1, 1, 0)}}}}}
	k := tried(t, tableT(), p, []api.Move{sp(-24), st(5, 16, 8), mov(5, 0), st(1, 8, 8), jump(1)},
		[]api.Move{mov(0, 5), ld(1, 8, 8), st(1, 32, 8), st(5, 40, 8), ld(5, 16, 8), sp(24), ret()})
	k.endsBy(1, ret())
	for at := range 7 {
		k.refuses("one is left out", drop(1, at))
	}
	k.refuses("another local in a register", put(1, 0, ld(0, 8, 8)))
	k.refuses("another local in the other register", put(1, 1, mov(1, 5)))
	k.refuses("another local in a cell", put(1, 2, st(5, 32, 8)))
	k.refuses("another local in the last cell", put(1, 3, st(1, 40, 8)))
	k.refuses("cells turned about", put(1, 2, st(1, 40, 8)), put(1, 3, st(5, 32, 8)))
	k.refuses("a cell of the frame", put(1, 2, st(1, 0, 8)))
	k.refuses("the cell that the return address is in", put(1, 2, st(1, 24, 8)))
	k.refuses("what is kept is not back", put(1, 4, ld(5, 8, 8)))
	k.refuses("what is kept was written over", add(1, 0, st(5, 16, 8)))
	k.refuses("it is written over behind that", add(1, 5, li(5, 0)))
	k.refuses("another register that must be kept", add(1, 0, li(6, 0)))
	k.refuses("the last register that must be kept", add(1, 6, li(7, 0)))
	k.refuses("the return address is written over", add(1, 0, st(5, 24, 8)))
	k.refuses("the return address is written over behind all", add(1, 6, st(5, 0, 8)))
	k.takes("what is left may be written over", add(1, 5, st(9, 0, 8), st(9, 8, 8), st(9, 16, 8)))
	k.takes("results that are laid when the frame is left", whole(1, mov(0, 5), ld(1, 8, 8), mov(10, 5), ld(5, 16, 8), sp(24), st(1, 8, 8), st(10, 16, 8), ret()))
	k.refuses("too little is left", put(1, 5, sp(16)))
	k.takes("the locals' homes need not stand", add(1, 4, st(9, 8, 8)))
}

// Tail calls that are jumps, with words in registers and in cells.
func TestP14Leap(t *testing.T) {
	// by T: words in 0 to 3 and in the area's cell 0. The frame has the cells 0 to 32, the register 5 at 40, Size 56, In 64
	p := api.Program{Funcs: []api.Func{
		{Params: words(5), Results: 1, Homes: []int{0, 1, 5, -1, -1}, Blocks: [][]api.Ins{{tailed(0, local(1, 0, 2, 4, 3)...)}}},
		{Params: words(5), Results: 1, Homes: []int{0, 1, 5, -1, -1}, Blocks: [][]api.Ins{{gives(0)}}},
	}}
	begin := []api.Move{sp(-56), st(5, 40, 8), mov(5, 2), st(3, 24, 8), ld(9, 64, 8), st(9, 32, 8), jump(1)}
	moves := []api.Move{mov(9, 0), mov(0, 1), mov(1, 9), mov(2, 5), ld(3, 32, 8), ld(9, 24, 8), st(9, 64, 8), ld(5, 40, 8), sp(56), leap(0)}
	k := tried(t, tableT(), p, begin, moves)
	k.endsBy(1, leap(0))
	for at := range 10 {
		k.refuses("one is left out", drop(1, at))
	}
	k.refuses("words in another order", swap(1, 0))
	k.refuses("another local in a register", put(1, 4, ld(3, 24, 8)))
	k.refuses("another local in the cell", put(1, 5, ld(9, 32, 8)))
	k.refuses("a cell of the frame", put(1, 6, st(9, 0, 8)))
	k.refuses("the return address is written over", add(1, 0, st(9, 56, 8)))
	k.refuses("what is kept is not back", put(1, 7, ld(5, 32, 8)))
	k.refuses("a register that must be kept", add(1, 9, li(7, 0)))
	k.refuses("at another depth", put(1, 8, sp(48)))
	k.refuses("at depth 0", put(1, 8, sp(56), sp(-56)))
	k.refuses("a call and a return", put(1, 9, calls(0), ret()))
	k.refuses("a call ahead of it", add(1, 0, calls(0)))
	k.takes("a word that is laid when the frame is left", whole(1, mov(9, 0), mov(0, 1), mov(1, 9), mov(2, 5), ld(3, 32, 8), ld(9, 24, 8), ld(5, 40, 8), sp(56), st(9, 8, 8), leap(0)))
	k.alike([]api.Ins{tailed(1, local(1, 0, 2, 4, 3)...)}, append(append([]api.Move{}, moves[:9]...), leap(1))...).refuses("another function", put(1, 9, leap(0)))
}

// By U the return address must be in Link; blocks of words go by value.
func TestP14LeapByLink(t *testing.T) {
	// words in 0 and 1; a block in 2 and 3. The frame has the cells 0 and 8, the slot 16, the register 6 at 32, Size 48
	p := api.Program{Funcs: []api.Func{{Params: []api.Param{{To: 0}, {Words: 2}}, Homes: []int{6, -1}, Slots: []int{2}, Blocks: [][]api.Ins{{
		stores(0, 0, 8, 8), tailed(0, api.Arg{From: 1}, api.Arg{Words: 2}),
	}}}}}
	k := tried(t, tableU(), p,
		[]api.Move{sp(-48), st(6, 32, 8), mov(6, 0), st(2, 16, 8), st(3, 24, 8), li(10, 0), st(10, 8, 8), jump(1)},
		[]api.Move{st(6, 24, 8), ld(0, 8, 8), ld(2, 16, 8), ld(3, 24, 8), ld(6, 32, 8), sp(48), leap(0)})
	k.endsBy(1, leap(0))
	for at := range 7 {
		k.refuses("one is left out", drop(1, at))
	}
	k.refuses("a block ahead of the store", put(1, 0, ld(2, 16, 8)), put(1, 2, st(6, 24, 8)))
	k.refuses("Link is written over", add(1, 0, li(12, 0)))
	k.takes("Link, and back", add(1, 0, mov(10, 12), li(12, 0), mov(12, 10)))
	k.takes("the register that Pairs leave out", add(1, 0, li(1, 7)))
	k.takes("the area that is left", add(1, 0, st(10, 48, 8), st(10, 56, 8)))
}

// A tail call that has neither arguments nor results.
func TestP14BareTail(t *testing.T) {
	p := api.Program{Externs: []api.Sig{sig(0)}, Funcs: []api.Func{{Blocks: [][]api.Ins{{tailed(1)}}}, {Blocks: [][]api.Ins{{asked(0, nil), gives()}}}}}
	k := tried(t, tableT(), p, []api.Move{sp(-8), jump(1)}, []api.Move{sp(8), leap(1)})
	k.endsBy(1, leap(1))
	k.refuses("left out", put(1, 1, ret()))
	k.refuses("a call and a return", whole(1, calls(1), sp(8), ret()))
	k.refuses("a call more", add(1, 0, calls(1)))
	k.refuses("not left", drop(1, 0))
	k = tried(t, tableU(), p, []api.Move{jump(1)}, []api.Move{leap(1)})
	k.refuses("another function", put(1, 0, leap(0)))
	k.refuses("Link is written over", add(1, 0, li(12, 0)))
}

// Tail calls that are none: a call, the last thing that is seen, and a return with its results.
func TestP14TailCall(t *testing.T) {
	// by T: five words, in 0 to 3 and in the cell 0; three results, in 0, 1 and a cell: that of what is called is at 8, its own at 40. The frame has Out 16, the cell 16, the register 5 at 24, Size 40, In 48
	p := api.Program{Externs: []api.Sig{sig(0)}, Funcs: []api.Func{
		{Params: words(1), Results: 3, Homes: []int{5}, Blocks: [][]api.Ins{{asked(0, nil), tailed(1, local(0, 0, 0, 0, 0)...)}}},
		{Params: words(5), Results: 3, Homes: []int{0, 1, 2, 3, 4}, Blocks: [][]api.Ins{{gives(0, 1, 4)}}},
	}}
	k := tried(t, tableT(), p, []api.Move{sp(-40), st(5, 24, 8), mov(5, 0), jump(1)},
		[]api.Move{exts(0), mov(0, 5), mov(1, 5), mov(2, 5), mov(3, 5), st(5, 0, 8), calls(1), ld(9, 8, 8), st(9, 48, 8), ld(5, 24, 8), sp(40), ret()})
	k.endsBy(1, ret())
	for at := range 12 {
		k.refuses("one is left out", drop(1, at))
	}
	k.refuses("twice", add(1, 7, calls(1)))
	k.refuses("something more is seen behind it", add(1, 7, exts(0)))
	k.refuses("ahead of all else that is seen", put(1, 6, exts(0)), put(1, 0, calls(1)))
	k.refuses("another function", put(1, 6, calls(0)))
	k.refuses("something outside", put(1, 6, exts(0)))
	k.refuses("a jump", put(1, 11, leap(1)))
	k.refuses("a jump in place of it", whole(1, exts(0), mov(0, 5), mov(1, 5), mov(2, 5), mov(3, 5), st(5, 48, 8), ld(5, 24, 8), sp(40), leap(1)))
	k.refuses("at another depth", add(1, 6, sp(8)), put(1, 11, sp(32)))
	k.refuses("an argument in the own area", put(1, 5, st(5, 48, 8)))
	k.refuses("a result is another one", add(1, 7, mov(0, 1)))
	k.refuses("results turned about", add(1, 7, mov(9, 0), mov(0, 1), mov(1, 9)))
	k.refuses("the result in a cell is another one", put(1, 7, mov(9, 0)))
	k.refuses("a result in another cell", put(1, 8, st(9, 40, 8)))
	k.refuses("what is kept is not back", put(1, 9, ld(5, 16, 8)))
	k.refuses("the return address is written over", add(1, 8, st(9, 40, 8)))
	k.takes("the result is laid when the frame is left", put(1, 8, ld(5, 24, 8)), put(1, 9, sp(40)), put(1, 10, st(9, 8, 8)))
	k.takes("what nothing is asked of", add(1, 7, li(2, 0), li(3, 0), st(2, 0, 8), st(2, 16, 8)))
}

// A tail call that is none, as its words need a larger area, and that gives nothing; and one of a block that goes by reference.
func TestP14TailCallOfNothing(t *testing.T) {
	// by U: the frame has Out 24, the cell 24, the link at 32, Size 48
	p := api.Program{Funcs: []api.Func{{Params: words(1), Homes: []int{-1}, Blocks: [][]api.Ins{{tailed(1, local(0, 0, 0, 0, 0)...)}}}, {Params: words(5), Homes: []int{0, 1, 2, 3, 4}, Blocks: [][]api.Ins{{gives()}}}}}
	k := tried(t, tableU(), p, []api.Move{sp(-48), st(12, 32, 8), st(0, 24, 8), jump(1)},
		[]api.Move{ld(0, 24, 8), mov(1, 0), mov(2, 0), mov(3, 0), st(0, 16, 8), calls(1), ld(12, 32, 8), sp(48), ret()})
	k.endsBy(1, ret())
	for at := range 9 {
		k.refuses("one is left out", drop(1, at))
	}
	k.refuses("the call is left out with its arguments", whole(1, ld(12, 32, 8), sp(48), ret()))
	k.refuses("Link as it was where the block began", add(1, 0, mov(10, 12)), put(1, 7, mov(12, 10)))
	k.refuses("Link ahead of the call", add(1, 5, ld(12, 32, 8)), drop(1, 7))
	// the frame has Out 16, copies from 16 to 40, the slot 40, the link at 64, Size 80
	q := api.Program{Funcs: []api.Func{{Slots: []int{3}, Blocks: [][]api.Ins{{tailed(1, api.Arg{Words: 3})}}}, {Params: []api.Param{{Words: 3}}, Slots: []int{3}, Blocks: [][]api.Ins{{gives()}}}}}
	k = tried(t, tableU(), q, []api.Move{sp(-80), st(12, 64, 8), li(10, 0), st(10, 40, 8), st(10, 48, 8), st(10, 56, 8), jump(1)},
		[]api.Move{ld(10, 40, 8), st(10, 16, 8), ld(10, 48, 8), st(10, 24, 8), ld(10, 56, 8), st(10, 32, 8), lea(0, 16), calls(1), ld(12, 64, 8), sp(80), ret()})
	for at := range 11 {
		k.refuses("one is left out", drop(1, at))
	}
	k.refuses("the slot itself", put(1, 6, lea(0, 40)))
	k.refuses("in the shadow", put(1, 1, st(10, 8, 8)), put(1, 3, st(10, 16, 8)), put(1, 5, st(10, 24, 8)), put(1, 6, lea(0, 8)))
	k.refuses("a jump", whole(1, ld(10, 40, 8), st(10, 16, 8), ld(10, 48, 8), st(10, 24, 8), ld(10, 56, 8), st(10, 32, 8), lea(0, 16), ld(12, 64, 8), sp(80), leap(1)))
}
