package prologue_test

import (
	"math"
	"testing"

	"prologue/api"
)

// Block 0, where return addresses are pushed: what must stand at its end.
func TestP14Begin(t *testing.T) {
	k := document(t)
	k.takes("moves that do not hang on each other", swap(0, 2))
	k.refuses("an argument ahead of what it writes over", swap(0, 1))
	k.refuses("a register is not kept", drop(0, 1))
	k.refuses("it is kept elsewhere", put(0, 1, st(5, 0, 8)))
	k.refuses("another one is kept", put(0, 1, st(6, 16, 8)))
	k.takes("it is kept by way of another one", put(0, 1, mov(9, 5), st(9, 16, 8)))
	k.takes("it is kept ahead of the frame", add(0, 0, mov(9, 5)), put(0, 2, st(9, 16, 8)))
	k.refuses("a local has nothing", drop(0, 2))
	k.refuses("a local has the other argument", put(0, 2, mov(5, 1)))
	k.refuses("a cell has nothing", drop(0, 3))
	k.refuses("a cell has the other argument", put(0, 3, st(0, 8, 8)))
	k.refuses("another cell has it", put(0, 3, st(1, 0, 8)))
	k.refuses("a local has a number", put(0, 2, li(5, 0)))
	for _, r := range []int{6, 7} {
		k.refuses("a register that must be kept", add(0, 1, li(r, 0)))
		k.takes("a register that must be kept, and back", add(0, 1, mov(9, r), li(r, 0), mov(r, 9)))
		k.refuses("two such registers change places", add(0, 1, mov(9, 6), mov(6, 7), mov(7, 9)))
	}
	k.refuses("the return address", add(0, 1, st(9, 24, 8)))
	k.refuses("the return address, ahead of the frame", add(0, 0, st(9, 0, 8)))
	k.takes("the return address, and back", add(0, 1, ld(9, 24, 8), st(10, 24, 8), st(9, 24, 8)))
	k.refuses("the depth", put(0, 0, sp(-16)), put(0, 1, st(5, 8, 8)), put(0, 3, st(1, 0, 8)))
	k.refuses("something is called", add(0, 4, calls(0)))
	k.refuses("something outside is called", add(0, 4, exts(0)))
	for _, m := range []api.Move{jump(0), jump(2), jump(-1), jump(math.MaxInt), jump(math.MinInt), fork(5, 1, 1), ret(), leap(0), leap(1), stop(1), sp(0)} {
		k.refuses("another end", put(0, 4, m))
	}
}

// Locals and slots that nothing comes into must be 0 in the end of block 0; those that something comes into have it.
func TestP14FirstValues(t *testing.T) {
	// the frame by T has the cells 0 to 16, slots at 24, 40 and 48, the register 5 at 72, Size 88
	p := api.Program{Funcs: []api.Func{{Params: []api.Param{{Words: 2, To: 0}, {To: 1}}, Homes: []int{5, 4, -1}, Slots: []int{2, 1, 3}, Blocks: [][]api.Ins{{gives()}}}}}
	k := tried(t, tableT(), p,
		[]api.Move{sp(-88), st(5, 72, 8), st(0, 24, 8), st(1, 32, 8), mov(4, 2), li(5, 0), st(5, 16, 8), st(5, 40, 8), st(5, 48, 8), st(5, 56, 8), st(5, 64, 8), jump(1)},
		[]api.Move{ld(5, 72, 8), sp(88), ret()})
	for at := range 12 {
		k.refuses("one is left out", drop(0, at))
	}
	k.takes("by another 0", put(0, 6, li(9, 0), st(9, 16, 8)))
	k.refuses("by another number", put(0, 6, li(9, 1), st(9, 16, 8)))
	k.refuses("by a number in a slot", put(0, 9, li(9, 256), st(9, 56, 8)))
	k.refuses("by 0 that was reckoned", put(0, 10, reckon(api.Sub, 9, 5, 5), st(9, 64, 8)))
	k.refuses("what comes into a slot is 0", put(0, 2, li(9, 0), st(9, 24, 8)))
	k.refuses("a block's words turned about", put(0, 2, st(1, 24, 8)), put(0, 3, st(0, 32, 8)))
	k.refuses("a block's first word twice", put(0, 3, st(0, 32, 8)))
	k.refuses("the word is the block's", put(0, 4, mov(4, 1)))
	k.refuses("a piece of a slot", put(0, 7, st(5, 40, 4), st(5, 44, 4)))
	k.refuses("a byte more of a slot", add(0, 11, st(5, 40, 1)))
	k.refuses("a slot is read by pieces", add(0, 11, ld(9, 40, 4)))
	k.takes("a slot is a cell here", add(0, 5, st(9, 40, 8), ld(9, 40, 8)))
	k.takes("a slot is a cell here, and goes on", put(0, 4, st(2, 40, 8), ld(4, 40, 8)))
}

// linked: by U; it has one local in a register that is kept, and one in a cell. The frame has the cells 0 and 8, the register 6 at 16, Size 32, In 32.
func linked(t *testing.T) trial {
	p := adder()
	p.Funcs[0].Homes = []int{6, -1}
	return tried(t, tableU(), p,
		[]api.Move{sp(-32), st(6, 16, 8), mov(6, 0), st(1, 8, 8), jump(1)},
		[]api.Move{ld(10, 8, 8), reckon(api.Add, 10, 6, 10), st(10, 8, 8), ld(0, 8, 8), ld(6, 16, 8), sp(32), ret()})
}

// A return address in Link, of a function that calls nothing: it stays there.
func TestP14Link(t *testing.T) {
	k := linked(t)
	for b, at := range []int{1, 3} {
		k.refuses("Link is written over", add(b, at, li(12, 0)))
		k.refuses("Link gets a word", add(b, at, mov(12, 0)))
		k.takes("Link, and back", add(b, at, mov(11, 12), li(12, 0), mov(12, 11)))
		k.takes("Link by way of a cell, and back", add(b, at, st(12, 24, 8), li(12, 0), ld(12, 24, 8)))
	}
	k.refuses("laid aside where nothing knows of it", add(0, 1, st(12, 24, 8), li(12, 0)), add(1, 0, ld(12, 24, 8)))
	k.takes("the cell at Size is like others of the area", add(1, 0, st(10, 32, 8)))
	k.refuses("Link is what a local has", add(1, 5, mov(12, 6)))
}

// The return address in Link's cell, of a function that calls something: Link itself is unknown there.
func TestP14LinkCell(t *testing.T) {
	// the frame has Out 16, the cell 16, the link at 24, Size 32
	p := api.Program{Externs: []api.Sig{sig(0)}, Funcs: []api.Func{{Params: words(1), Results: 1, Homes: []int{-1}, Blocks: [][]api.Ins{{goes(1)}, {asked(0, nil), gives(0)}}}}}
	k := tried(t, tableU(), p,
		[]api.Move{sp(-32), st(12, 24, 8), st(0, 16, 8), jump(1)}, []api.Move{jump(2)},
		[]api.Move{exts(0), ld(0, 16, 8), ld(12, 24, 8), sp(32), ret()})
	k.refuses("not laid aside", drop(0, 1))
	k.refuses("laid aside elsewhere", put(0, 1, st(12, 8, 8)))
	k.refuses("another register is laid aside", put(0, 1, st(6, 24, 8)))
	k.takes("Link is free behind it", add(0, 2, li(12, 5)))
	k.takes("Link is free in a block", add(1, 0, li(12, 5)))
	k.takes("Link is free ahead of the call", add(2, 0, li(12, 5)))
	k.refuses("its cell is written over", add(1, 0, st(10, 24, 8)))
	k.refuses("its cell is written over ahead of the end", add(2, 0, st(10, 24, 8)))
	k.refuses("it does not come back", drop(2, 2))
	k.refuses("Link is not known where a block begins", put(2, 2, mov(12, 12)))
	k.refuses("it comes back from elsewhere", put(2, 2, ld(12, 16, 8)))
	k.takes("it comes back by way of another one", put(2, 2, ld(10, 24, 8), mov(12, 10)))
	k.takes("it comes back ahead of the result", swap(2, 1))
	k.refuses("it is unknown behind a call", add(2, 0, ld(12, 24, 8)), drop(2, 3))
}

// Where any other block begins, nothing is known but what stands.
func TestP14BlocksBegin(t *testing.T) {
	// the frame by T has cells from 0 to 56, the register 5 at 56, Size 72, In 80; the fifth word came at 80
	p := api.Program{Funcs: []api.Func{{Params: words(5), Results: 1, Homes: []int{0, 1, 5, -1, 4, 8, -1}, Blocks: [][]api.Ins{{goes(1)}, {gives(0)}}}}}
	k := tried(t, tableT(), p,
		[]api.Move{sp(-72), st(5, 56, 8), mov(5, 2), st(3, 24, 8), ld(4, 80, 8), li(8, 0), st(8, 48, 8), jump(1)},
		[]api.Move{jump(2)}, []api.Move{ld(5, 56, 8), sp(72), ret()})
	begin := add(0, 7, mov(9, 0), mov(10, 0), st(0, 0, 8), st(0, 8, 8), st(0, 64, 8), st(0, 80, 8), mov(3, 0), mov(2, 0))
	k.takes("things that nothing is asked of", begin)
	k.takes("a local in its register", begin, add(2, 0, mov(9, 0), li(0, 0), mov(0, 9)))
	for _, r := range []int{9, 10, 3, 2} {
		k.refuses("a register that is no home", begin, add(2, 0, mov(0, r)))
	}
	for _, at := range []int64{0, 8, 64, 80} {
		k.refuses("a cell that is no home", begin, add(2, 0, ld(0, at, 8)))
		k.refuses("a cell that is no home, when it was written in another block", add(1, 0, st(0, at, 8)), add(2, 0, ld(0, at, 8)))
	}
	for n, m := range []api.Move{mov(0, 1), mov(0, 5), ld(0, 24, 8), mov(0, 4), mov(0, 8), ld(0, 48, 8)} {
		k.refuses("another local", add(2, 0, m))
		k.alike([]api.Ins{gives(n + 1)}, m, ld(5, 56, 8), sp(72), ret()).refuses("the first one", drop(2, 0))
	}
	k.refuses("a local that is 0 at first is known no longer to be 0", add(2, 0, li(0, 0)))
	k.alike([]api.Ins{sets(0, 0), gives(0)}, li(0, 0), ld(5, 56, 8), sp(72), ret()).refuses("and the other way about", put(2, 0, mov(0, 8)))
	k.refuses("an argument is no local any more", add(1, 0, mov(3, 0), mov(0, 1)))
}
