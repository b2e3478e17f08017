package prologue_test

import (
	"testing"

	"prologue/api"
)

// calling all kinds of arguments: by T a word in the register 0, a block in 1 and 2, words in 3 and in the cell 0, the address of a copy in the cell 8; results in 0, 1 and the cell 16. The frame has Out 24, copies from 24 to 88 (as something else wants eight words), the cells 88, 96 and 104, slots at 112, 128 and 152, the registers 5 and 6 at 216 and 224, Size 232.
func allKinds(t *testing.T, i api.Ins, m api.Move) trial {
	s := sig(3, 0, 2, 0, 0, 3)
	i.Args, i.Outs = []api.Arg{{From: 0}, {Words: 2}, {From: 1}, {From: 2}, {Words: 3, From: 1}}, []int{2, 1, 0}
	called := headed(s)
	called.Homes = append(called.Homes, -1, -1, -1)
	called.Blocks = [][]api.Ins{{gives(2, 0, 1)}}
	p := api.Program{Externs: []api.Sig{s, sig(0), sig(0, 8)}, Funcs: []api.Func{
		{Params: words(3), Homes: []int{5, 6, -1}, Slots: []int{2, 3, 8}, Blocks: [][]api.Ins{{i, goes(1)}, {asked(2, []api.Arg{{Words: 8, From: 2}}), {Op: api.Trap}}}},
		called,
	}}
	begin := []api.Move{sp(-232), st(5, 216, 8), st(6, 224, 8), mov(5, 0), mov(6, 1), st(2, 104, 8), li(9, 0)}
	last := []api.Move{}
	for at := int64(112); at < 216; at += 8 {
		begin = append(begin, st(9, at, 8))
	}
	for n := range int64(8) {
		last = append(last, ld(9, 152+8*n, 8), st(9, 24+8*n, 8))
	}
	return tried(t, tableT(), p, append(begin, jump(1)), []api.Move{
		ld(9, 128, 8), st(9, 24, 8), ld(9, 136, 8), st(9, 32, 8), ld(9, 144, 8), st(9, 40, 8), lea(9, 24), st(9, 8, 8),
		ld(9, 104, 8), st(9, 0, 8), mov(0, 5), ld(1, 112, 8), ld(2, 120, 8), mov(3, 6),
		m, st(0, 104, 8), mov(6, 1), ld(5, 16, 8), jump(2),
	}, append(last, lea(0, 24), exts(2), stop(0)))
}

func eachKind(t *testing.T, try func(k trial)) {
	try(allKinds(t, api.Ins{Op: api.Ext}, exts(0)))
	try(allKinds(t, api.Ins{Op: api.Call, F: 1}, calls(1)))
}

// Arguments: each term where P9 says.
func TestP14Arguments(t *testing.T) {
	eachKind(t, func(k trial) {
		for at := range 18 {
			k.refuses("one is left out", drop(1, at))
		}
		k.takes("in another order", swap(1, 11), swap(1, 12), swap(1, 10))
		k.refuses("a word is another local", put(1, 10, mov(0, 6)))
		k.refuses("a block's words turned about", put(1, 11, ld(2, 112, 8)), put(1, 12, ld(1, 120, 8)))
		k.refuses("a block's words of another slot", put(1, 11, ld(1, 128, 8)))
		k.refuses("a word in another register", put(1, 13, mov(4, 6)))
		k.refuses("a word in another cell", put(1, 9, st(9, 16, 8)))
		k.refuses("another local in a cell", put(1, 9, st(5, 0, 8)))
		k.refuses("written over by the next one", add(1, 14, li(3, 0)))
		k.refuses("a cell is written over", add(1, 14, st(0, 0, 8)))
		k.takes("what is no argument", add(1, 14, st(0, 16, 8), li(4, 0), li(9, 0), li(8, 1)))
		k.refuses("at another depth", add(1, 14, sp(8)), add(1, 16, sp(-8)))
		k.refuses("all of it at another depth", add(1, 0, sp(8)), add(1, 16, sp(-8)))
		k.takes("at depth 0 again", add(1, 0, sp(8), sp(-8)), add(1, 16, sp(8), sp(-8)))
	})
}

// Copies: an address of a place in the frame's copies, with all words there.
func TestP14Copies(t *testing.T) {
	eachKind(t, func(k trial) {
		copied := func(at int64) []edit {
			return []edit{put(1, 1, st(9, at, 8)), put(1, 3, st(9, at+8, 8)), put(1, 5, st(9, at+16, 8)), put(1, 6, lea(9, at))}
		}
		for at := int64(24); at <= 64; at += 8 {
			k.takes("elsewhere in the copies", copied(at)...)
		}
		for _, at := range []int64{72, 80, 88, 0, 8, 16} {
			k.refuses("not within the copies", copied(at)...)
		}
		for _, at := range []int64{0, 8, 16, 23, 25, 28, 31, 32, 40, 72, 80, 88, 96, 112, 128, 232, 1048576} {
			k.refuses("another address", put(1, 6, lea(9, at)))
		}
		k.refuses("the slot itself", put(1, 6, lea(9, 128)))
		k.refuses("a number", put(1, 6, li(9, 24)))
		k.refuses("an address that was reckoned", put(1, 6, lea(9, 16), li(10, 8), reckon(api.Add, 9, 9, 10)))
		k.takes("an address that was made at another depth", put(1, 6, sp(16), lea(9, 8), sp(-16)))
		k.refuses("an address that was made at another depth, counted from 0", put(1, 6, sp(16), lea(9, 24), sp(-16)))
		k.refuses("an address that is below that depth", put(1, 6, sp(32), lea(9, -8), sp(-32)))
		k.refuses("another word", put(1, 0, ld(9, 136, 8)))
		k.refuses("a word of another slot", put(1, 2, ld(9, 112, 8)))
		k.refuses("a word of the copy is written over", add(1, 14, st(5, 40, 8)))
		k.takes("what is behind the copy", add(1, 14, st(5, 48, 8)))
		k.refuses("the words at one place, the address at another", put(1, 1, st(9, 48, 8)), put(1, 3, st(9, 56, 8)), put(1, 5, st(9, 64, 8)))
	})
}

// Two copies of one slot may be one; those of two slots are two.
func TestP14TwoCopies(t *testing.T) {
	// the frame by T has copies from 0 to 48, slots at 48 and 72, Size 104
	p := api.Program{Externs: []api.Sig{sig(0, 3, 3)}, Funcs: []api.Func{{Slots: []int{3, 3}, Blocks: [][]api.Ins{{asked(0, []api.Arg{{Words: 3}, {Words: 3}}), gives()}}}}}
	begin := []api.Move{sp(-104), li(9, 0)}
	var moves []api.Move
	for n := range int64(6) {
		begin = append(begin, st(9, 48+8*n, 8))
		moves = append(moves, ld(9, 48+8*(n%3), 8), st(9, 8*n, 8))
	}
	k := tried(t, tableT(), p, append(begin, jump(1)), append(moves, lea(0, 0), lea(1, 24), exts(0), sp(104), ret()))
	k.takes("two that are one", put(1, 12, lea(0, 24)))
	k.takes("turned about", put(1, 12, lea(0, 24)), put(1, 13, lea(1, 0)))
	k.refuses("beyond", put(1, 13, lea(1, 32)))
	for _, m := range []api.Move{li(0, 0), li(0, 24), mov(0, 5), mov(0, 9), ld(0, 0, 8)} {
		k.refuses("no address, though the copy stands at 0", put(1, 12, m))
	}
	moves[6], moves[8], moves[10] = ld(9, 72, 8), ld(9, 80, 8), ld(9, 88, 8)
	other := []api.Ins{asked(0, []api.Arg{{Words: 3}, {Words: 3, From: 1}}), gives()}
	k = k.alike(other, append(moves, lea(0, 0), lea(1, 24), exts(0), sp(104), ret())...)
	k.refuses("one for two", put(1, 13, lea(1, 0)))
	k.refuses("turned about", put(1, 12, lea(0, 24)), put(1, 13, lea(1, 0)))
}

// A block that goes by value, of what its slot has behind the stores ahead of the call.
func TestP14BlocksBehindStores(t *testing.T) {
	// the frame by T has the cell 0, the slot 8, Size 24
	p := api.Program{Externs: []api.Sig{sig(0, 2)}, Funcs: []api.Func{{Params: words(1), Homes: []int{4}, Slots: []int{2}, Blocks: [][]api.Ins{{
		stores(0, 0, 8, 8), asked(0, []api.Arg{{Words: 2}}), gives(),
	}}}}}
	k := tried(t, tableT(), p, []api.Move{sp(-24), mov(4, 0), li(9, 0), st(9, 8, 8), st(9, 16, 8), jump(1)}, []api.Move{st(4, 16, 8), ld(0, 8, 8), ld(1, 16, 8), exts(0), sp(24), ret()})
	k.refuses("a word ahead of the store", swap(1, 0))
	k.refuses("the store behind the words", swap(1, 0), swap(1, 1))
	k.refuses("what was stored, not what the slot has", put(1, 2, mov(1, 4)))
	k.refuses("a piece", put(1, 1, ld(0, 8, 4)))
}

// Behind a call all registers but Saves, and the cells of its area, are unknown, but for the results.
func TestP14BehindCalls(t *testing.T) {
	eachKind(t, func(k trial) {
		k.refuses("a result from another register", put(1, 15, st(1, 104, 8)))
		k.refuses("a result that was no result", put(1, 16, mov(6, 3)))
		k.refuses("a result in another cell", put(1, 17, ld(5, 8, 8)))
		k.refuses("results turned about", put(1, 15, st(1, 104, 8)), put(1, 16, mov(6, 0)))
		k.refuses("what a local had", put(1, 17, mov(5, 5)))
		// the register 7 must have in the end what it had: it is looked for where it was laid ahead of the call
		for _, r := range []int{4, 8, 9, 10} {
			k.refuses("what a register had that is not kept", add(1, 14, mov(r, 7)), add(1, 19, mov(7, r)))
		}
		k.takes("what a register had that is kept", add(1, 18, mov(9, 7), li(7, 0), mov(7, 9)))
		k.refuses("what was in a cell of the area, where a result is", add(1, 14, st(7, 16, 8)), add(1, 19, ld(7, 16, 8)))
		for at := int64(48); at < 104; at += 8 {
			k.takes("what was in a cell above the area", add(1, 14, st(7, at, 8)), add(1, 19, ld(7, at, 8)))
		}
		k.takes("the return address above all", add(1, 18, ld(9, 232, 8), st(9, 232, 8)))
	})
}

// Arguments are unknown behind a call, too: those in registers as well as those in cells.
func TestP14ArgumentsBehindCalls(t *testing.T) {
	// by T five words in the registers 0 to 3 and in the cell 0. The frame has Out 8, the cell 8, the register 5 at 16, Size 24
	p := api.Program{Externs: []api.Sig{sig(0, 0, 0, 0, 0, 0)}, Funcs: []api.Func{{Params: words(1), Results: 1, Homes: []int{5}, Blocks: [][]api.Ins{{asked(0, local(0, 0, 0, 0, 0)), gives(0)}}}}}
	k := tried(t, tableT(), p, []api.Move{sp(-24), st(5, 16, 8), mov(5, 0), jump(1)},
		[]api.Move{mov(0, 5), mov(1, 5), mov(2, 5), mov(3, 5), st(5, 0, 8), exts(0), mov(0, 5), ld(5, 16, 8), sp(24), ret()})
	for r := range 4 {
		k.refuses("in its register", put(1, 6, mov(0, r)))
	}
	for _, r := range []int{4, 8, 9, 10} {
		k.refuses("in another register", add(1, 0, mov(r, 5)), put(1, 7, mov(0, r)))
	}
	k.refuses("in its cell", put(1, 6, ld(0, 0, 8)))
	k.takes("in a cell above", add(1, 0, st(5, 8, 8)), put(1, 7, ld(0, 8, 8)))
	k.takes("in a register that is kept", add(1, 0, st(6, 8, 8), mov(6, 5)), put(1, 8, mov(0, 6), ld(6, 8, 8)))
}

// The area is that of what is called, not the greatest one.
func TestP14Areas(t *testing.T) {
	// by U: the areas have 16 and 24 bytes. The frame has Out 24, the cell 24, the link at 32, Size 48
	p := api.Program{Externs: []api.Sig{sig(0), sig(0, 0, 0, 0, 0, 0)}, Funcs: []api.Func{{Params: words(1), Results: 1, Homes: []int{-1}, Blocks: [][]api.Ins{{asked(0, nil), asked(1, local(0, 0, 0, 0, 0)), gives(0)}}}}}
	five := []api.Move{ld(0, 24, 8), mov(1, 0), mov(2, 0), mov(3, 0), st(0, 16, 8)}
	leave := []api.Move{ld(0, 24, 8), ld(12, 32, 8), sp(48), ret()}
	code := append(append(append([]api.Move{exts(0)}, five...), exts(1)), leave...)
	k := tried(t, tableU(), p, []api.Move{sp(-48), st(12, 32, 8), st(0, 24, 8), jump(1)}, code)
	k.takes("a cell above the smaller area", add(1, 0, ld(10, 24, 8), st(10, 16, 8)), put(1, 3, ld(0, 16, 8)))
	for _, at := range []int64{0, 8} {
		k.refuses("a cell of the smaller area", add(1, 0, ld(10, 24, 8), st(10, at, 8)), put(1, 3, ld(0, at, 8)))
	}
	for _, at := range []int64{0, 8, 16} {
		k.refuses("a cell of the larger area", put(1, 7, ld(0, at, 8)))
	}
	k.takes("the area's cells are free ahead of a call", add(1, 0, st(10, 0, 8), st(10, 8, 8), st(10, 16, 8)), add(1, 7, st(10, 0, 8)))
}

// Results of calls one behind the other: those of the k-th are not those of the next one.
func TestP14Results(t *testing.T) {
	one := api.Func{Results: 1, Homes: []int{0}, Blocks: [][]api.Ins{{gives(0)}}}
	// the frame by T has the cells 0 and 8, the registers 5 and 6 at 16 and 24, Size 40
	p := api.Program{Externs: []api.Sig{sig(1)}, Funcs: []api.Func{{Results: 2, Homes: []int{5, 6}, Blocks: [][]api.Ins{{asked(0, nil, 0), called(1, nil, 1), asked(0, nil, 0), gives(0, 1)}}}, one}}
	k := tried(t, tableT(), p, []api.Move{sp(-40), st(5, 16, 8), st(6, 24, 8), li(5, 0), li(6, 0), jump(1)},
		[]api.Move{exts(0), mov(5, 0), calls(1), mov(6, 0), exts(0), mov(5, 0), mov(1, 6), ld(5, 16, 8), ld(6, 24, 8), sp(40), ret()})
	k.takes("the first one is not asked for any more", drop(1, 1))
	k.refuses("the second one is", drop(1, 3))
	k.refuses("the third one is not the first one", put(1, 5, mov(0, 5)))
	k.refuses("turned about", put(1, 5, mov(1, 0)), put(1, 6, mov(0, 6)))
	k.refuses("the second one where the first one is asked for", put(1, 5, mov(0, 6)))
	k.takes("by a cell", put(1, 3, st(0, 8, 8)), put(1, 6, ld(1, 8, 8)))
	k.takes("by another register that is kept, and is back", put(1, 3, mov(5, 0)), drop(1, 5), put(1, 5, mov(1, 5)))
}
