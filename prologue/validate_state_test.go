package prologue_test

import (
	"math"
	"slices"
	"testing"

	"prologue/api"
	"prologue/prologue"
)

// slotted: the frame by T has the cell 0, slots at 8 and 24, the register 5 at 32, Size 40.
func slotted(t *testing.T) trial {
	p := api.Program{Funcs: []api.Func{{Homes: []int{5}, Slots: []int{2, 1}, Blocks: [][]api.Ins{{
		loads(0, 0, 4, 4), stores(0, 0, 8, 2), loads(0, 1, 0, 8), stores(0, 1, 6, 1), gives(),
	}}}}}
	return tried(t, tableT(), p,
		[]api.Move{sp(-40), st(5, 32, 8), li(5, 0), st(5, 8, 8), st(5, 16, 8), st(5, 24, 8), jump(1)},
		[]api.Move{ld(5, 12, 4), st(5, 16, 2), ld(5, 24, 8), st(5, 30, 1), ld(5, 32, 8), sp(40), ret()})
}

// Slots: each width at its multiples, and nowhere else.
func TestP14Slots(t *testing.T) {
	k := slotted(t)
	for _, w := range []int{1, 2, 4, 8} {
		for at := int64(8); at < 32; at++ {
			if at%int64(w) == 0 {
				k.takes("a load from a slot", add(1, 0, ld(9, at, w)))
			} else {
				k.refuses("no multiple of the width", add(1, 0, ld(9, at, w)))
			}
			k.refuses("a store that is not seen", add(1, 0, st(9, at, w)))
			k.refuses("a store that is not seen, behind all that is", add(1, 4, st(9, at, w)))
		}
		for _, at := range []int64{1, 4, 7, 33, 36, 39} {
			k.refuses("beside the slots", add(1, 0, ld(9, at, w)))
			k.refuses("beside the slots", add(1, 0, st(9, at, w)))
		}
	}
	for _, w := range append(extremes, 0, 3, 5, 6, 7, 9, 16) {
		k.refuses("no width", add(1, 0, ld(9, 8, w)))
		k.refuses("no width", put(1, 1, st(5, 16, w)))
		k.refuses("no width", put(1, 3, st(5, 30, w)))
	}
	k.refuses("another width is read", put(1, 0, ld(5, 12, 2)))
	k.refuses("other bytes are read", put(1, 0, ld(5, 8, 4)))
	k.refuses("a word is read", put(1, 0, ld(5, 8, 8)))
	k.refuses("another slot is read", put(1, 2, ld(5, 16, 8)))
	k.refuses("another width is written", put(1, 1, st(5, 16, 4)))
	k.refuses("other bytes are written", put(1, 1, st(5, 18, 2)))
	k.refuses("another slot is written", put(1, 1, st(5, 24, 2)))
	k.refuses("another term is written", put(1, 1, li(9, 0), st(9, 16, 2)))
	k.takes("read at another depth", put(1, 0, sp(8), ld(5, 4, 4), sp(-8)))
	k.takes("read at an odd depth", put(1, 0, sp(3), ld(5, 9, 4), sp(-3)))
	k.takes("written at another depth", put(1, 1, sp(16), st(5, 0, 2), sp(-16)))
	k.refuses("written at another depth, counted from 0", put(1, 1, sp(16), st(5, 16, 2), sp(-16)))
	k.takes("read once more", add(1, 1, ld(5, 12, 4)))
	k.takes("by another register", put(1, 0, ld(9, 12, 4), mov(5, 9)))
	k.refuses("what was cut off otherwise", put(1, 0, ld(9, 8, 8), li(10, 1<<32), reckon(api.Mul, 5, 9, 10)))
}

// What a slot has hangs on how many stores of the block there were, whichever slots they went to.
func TestP14Stores(t *testing.T) {
	k := slotted(t)
	k.refuses("read behind a store, not ahead of it", swap(1, 0))
	k.refuses("read ahead of a store into another slot", put(1, 0, ld(5, 12, 4), ld(9, 24, 8)), put(1, 3, mov(5, 9)))
	k.takes("read behind it, and moved", put(1, 2, ld(9, 24, 8), mov(5, 9)))
	k.refuses("the first load once more, behind a store", put(1, 1, st(5, 16, 2), ld(5, 12, 4)), put(1, 3, mov(9, 5)))
	k = k.alike([]api.Ins{stores(0, 0, 0, 8), loads(0, 0, 0, 8), stores(0, 1, 0, 8), gives()}, st(5, 8, 8), ld(5, 8, 8), st(5, 24, 8), ld(5, 32, 8), sp(40), ret())
	k.refuses("what was stored is not read", drop(1, 1))
	k.refuses("what was read ahead of it", add(1, 0, ld(9, 8, 8)), put(1, 2, mov(5, 9)))
	k = k.alike([]api.Ins{stores(0, 0, 0, 8), stores(0, 0, 0, 8), loads(0, 0, 0, 8), stores(0, 0, 0, 8), loads(0, 0, 0, 8), stores(0, 1, 0, 8), gives()},
		st(5, 8, 8), st(5, 8, 8), ld(5, 8, 8), st(5, 8, 8), ld(5, 8, 8), st(5, 24, 8), ld(5, 32, 8), sp(40), ret())
	k.refuses("behind one store of two", swap(1, 1))
	k.refuses("behind two stores of three", drop(1, 4))
	k.refuses("one store too few", drop(1, 0))
	// calls change nothing in a slot
	p := copied(k.p)
	p.Externs = []api.Sig{sig(0)}
	k = trial{t, k.table, p, k.code}.alike([]api.Ins{stores(0, 0, 0, 8), loads(0, 0, 8, 8), asked(0, nil), stores(0, 0, 0, 8), gives()},
		st(5, 8, 8), ld(5, 16, 8), exts(0), st(5, 8, 8), ld(5, 32, 8), sp(40), ret())
	k.takes("read behind the call", swap(1, 1))
}

// Cells: what was written is what is read; those that nothing is asked of may have anything.
func TestP14Cells(t *testing.T) {
	k := document(t)
	k.takes("the cell of a local that is a register", add(1, 0, st(9, 0, 8)), add(1, 5, ld(9, 0, 8)))
	k.takes("by such a cell", put(1, 2, st(9, 8, 8), st(9, 0, 8)), put(1, 4, ld(0, 0, 8)))
	k.refuses("by one that was written over", put(1, 2, st(9, 8, 8), st(9, 0, 8), st(10, 0, 8)), put(1, 5, ld(0, 0, 8)))
	k.takes("the return address, and back", add(1, 0, ld(9, 24, 8), st(10, 24, 8), st(9, 24, 8)))
	k.refuses("the return address", add(1, 0, st(9, 24, 8)))
	k.takes("what is kept, when it has come back", add(1, 5, st(10, 16, 8)))
	k.refuses("what is kept", add(1, 0, st(10, 16, 8)))
	k.refuses("a local's home", add(1, 0, st(10, 8, 8)))
	k.refuses("another cell", put(1, 3, ld(0, 0, 8)))
	k.takes("two cells change places, and back", add(1, 0, ld(9, 8, 8), ld(10, 16, 8), st(9, 16, 8), st(10, 8, 8), ld(10, 16, 8), ld(9, 8, 8), st(10, 8, 8), st(9, 16, 8)))
	k.refuses("two cells change places", add(1, 0, ld(9, 8, 8), ld(10, 16, 8), st(9, 16, 8), st(10, 8, 8)))
}

// lending: two blocks that come by reference, with a word between them. The frame by T has the cell 0, slots at 8 and 32, the register 5 at 64, Size 72.
func lending(t *testing.T) trial {
	p := api.Program{Funcs: []api.Func{{Params: []api.Param{{Words: 3, To: 0}, {To: 0}, {Words: 4, To: 1}}, Homes: []int{5}, Slots: []int{3, 4}, Blocks: [][]api.Ins{{gives()}}}}}
	begin := []api.Move{sp(-72), st(5, 64, 8), mov(5, 1)}
	for n := range int64(3) {
		begin = append(begin, ldx(9, 0, 8*n), st(9, 8+8*n, 8))
	}
	for n := range int64(4) {
		begin = append(begin, ldx(9, 2, 8*n), st(9, 32+8*n, 8))
	}
	return tried(t, tableT(), p, append(begin, jump(1)), []api.Move{ld(5, 64, 8), sp(72), ret()})
}

// Ldx: by the address of a parameter's copy, and within it.
func TestP14Ldx(t *testing.T) {
	k := lending(t)
	for n := int64(0); n < 40; n++ {
		for r, words := range map[int]int64{0: 3, 2: 4} {
			if n%8 == 0 && n < 8*words {
				k.takes("a word of the copy", add(0, 1, ldx(9, r, n)))
			} else {
				k.refuses("no word of the copy", add(0, 1, ldx(9, r, n)))
			}
		}
	}
	for _, n := range []int64{-8, -1, 64, 1048576, 1 << 32, 1 << 62, math.MaxInt64, math.MaxInt64 - 7, math.MinInt64} {
		k.refuses("beyond the copy", add(0, 1, ldx(9, 0, n)))
	}
	for _, r := range []int{1, 3, 4, 5, 6, 9, 10} {
		k.refuses("no address of a copy", add(0, 1, ldx(9, r, 0)))
	}
	k.refuses("an address in the frame", add(0, 1, lea(9, 8), ldx(9, 9, 0)))
	k.refuses("a number", add(0, 1, li(9, 8), ldx(9, 9, 0)))
	k.refuses("the address, and 0", add(0, 1, li(9, 0), reckon(api.Add, 9, 0, 9), ldx(9, 9, 0)))
	k.refuses("a word of a copy", add(0, 1, ldx(9, 0, 0), ldx(9, 9, 0)))
	k.takes("by another register", put(0, 3, mov(10, 0), ldx(9, 10, 0)))
	k.takes("by a cell", put(0, 3, st(0, 0, 8), ld(10, 0, 8), ldx(9, 10, 0)))
	k.refuses("by no register, though the cell 0 has the address", put(0, 3, st(0, 0, 8), ldx(9, -1, 0)))
	k.takes("into its own register, the last time", put(0, 7, ldx(0, 0, 16)), put(0, 8, st(0, 24, 8)))
	k.refuses("into its own register", put(0, 3, ldx(0, 0, 0)), put(0, 4, st(0, 8, 8)))
	k.refuses("another word", put(0, 3, ldx(9, 0, 8)))
	k.refuses("a word of the other copy", put(0, 3, ldx(9, 2, 0)))
	k.refuses("behind block 0", add(1, 0, ldx(9, 0, 0)))
	k.refuses("behind block 0", add(1, 0, ldx(9, 2, 0)))
	for at := 3; at < 17; at++ {
		k.refuses("a word is left out", drop(0, at))
	}
	k.refuses("the address is not the word", add(0, 3, mov(5, 0)))
}

// Addresses that come in cells.
func TestP14LdxByCells(t *testing.T) {
	table := tableT()
	table.Args = nil
	// the frame has the slot at 0, Size 24, In 32: the address is there
	p := api.Program{Funcs: []api.Func{{Params: []api.Param{{Words: 3}}, Slots: []int{3}, Blocks: [][]api.Ins{{gives()}}}}}
	k := tried(t, table, p, []api.Move{sp(-24), ld(9, 32, 8), ldx(10, 9, 0), st(10, 0, 8), ldx(10, 9, 8), st(10, 8, 8), ldx(10, 9, 16), st(10, 16, 8), jump(1)}, []api.Move{sp(24), ret()})
	k.refuses("another cell", put(0, 1, ld(9, 24, 8)))
	k.refuses("when it was written over", add(0, 1, st(9, 32, 8)))
	k.refuses("a register", put(0, 1, mov(9, 0)))
}

// needs: which of R, A and B are registers, by instructions.
var needs = map[int]int{api.Li: 1, api.Mov: 2, api.Add: 3, api.Sub: 3, api.Mul: 3, api.And: 3, api.Xor: 3, api.Less: 3, api.Same: 3, api.Ld: 1, api.St: 1, api.Ldx: 2, api.Lea: 1}

// Registers that there are not, and SP, are not named where a register is needed.
func TestP14Registers(t *testing.T) {
	for _, k := range []trial{document(t), lending(t)} {
		bad := append(slices.Clone(extremes), k.table.SP, k.table.Regs, k.table.Regs+1)
		for op, count := range needs {
			m := api.Move{Op: op, R: 9, A: 10, B: 10, W: 8}
			if op == api.Ldx {
				m.A = 0
				if k.p.Funcs[0].Params[0].Words == 0 {
					continue
				}
			}
			k.takes("registers that may be named", add(0, 1, m))
			for _, r := range bad {
				for n := range count {
					wrong := m
					*[]*int{&wrong.R, &wrong.A, &wrong.B}[n] = r
					k.refuses("a register that may not be named", add(0, 1, wrong))
				}
			}
		}
	}
	k := adding(t).alike([]api.Ins{forks(0, 0, 0)}, fork(0, 1, 1))
	for _, r := range append(slices.Clone(extremes), 11, 12, 1, 9) {
		k.refuses("Fork by a register that is another one, or none", put(1, 0, fork(r, 1, 1)))
	}
	k = document(t)
	k.refuses("no register, though the cell 0 has what is asked for", put(1, 3, ld(0, 8, 8), st(0, 0, 8), mov(0, -1)))
	k.refuses("no register is set, but the cell 0", add(1, 0, li(-1, 0)))
	k.refuses("SP comes to another register", add(1, 0, mov(9, 11)))
	k.refuses("SP is set", add(1, 0, mov(11, 9)))
	k.refuses("SP is stored", add(1, 0, st(11, 0, 8)))
	k.refuses("SP is loaded", add(1, 0, ld(11, 0, 8)))
	for r := range 11 {
		if r != 5 && r != 6 && r != 7 {
			k.takes("a register that nothing is asked of", add(1, 3, li(r, 7)))
		}
	}
}

// needed: an instruction with something else in all fields that it does not need.
func needed(m api.Move, other int) api.Move {
	n := needs[m.Op]
	if n < 1 && m.Op != api.Fork {
		m.R = other
	}
	if n < 2 && m.Op != api.Fork && m.Op != api.Jump {
		m.A = other
	}
	if n < 3 && m.Op != api.Fork {
		m.B = other
	}
	if !slices.Contains([]int{api.Li, api.Ld, api.St, api.Ldx, api.Lea, api.Sp, api.Stop}, m.Op) {
		m.N = int64(other)
	}
	if m.Op != api.Ld && m.Op != api.St {
		m.W = other
	}
	if !slices.Contains([]int{api.Calls, api.Exts, api.Leap}, m.Op) {
		m.F = other
	}
	return m
}

// What stands in a field that an instruction does not need is not looked at.
func TestP14SpareFields(t *testing.T) {
	seen := map[int]int{}
	for seed := range int64(60) {
		table := conventions()[seed%9]
		p := makeProgram(seed, table)
		if _, err := prologue.Lower(table, p); err != nil {
			continue
		}
		for _, other := range []int{-1, 11, 99, math.MinInt, math.MaxInt} {
			c := lowered(t, "spare", table, p)
			for _, blocks := range c.Funcs {
				for _, moves := range blocks {
					for n, m := range moves {
						moves[n] = needed(m, other)
						seen[m.Op]++
					}
				}
			}
			for f := range p.Funcs {
				isValid(t, "spare fields", table, p, c, f, true)
			}
		}
	}
	for op := api.Li; op <= api.Stop; op++ {
		if seen[op] < 20 {
			t.Errorf("too few of the instruction %d: %v", op, seen)
		}
	}
}

// Instructions that are none, and those that end a block ahead of its end.
func TestP14Instructions(t *testing.T) {
	k := document(t)
	for _, op := range append(slices.Clone(extremes), 0, 22, 23, 255, 256) {
		for b := range 2 {
			for at := range k.code[b] {
				k.refuses("no instruction", put(b, at, api.Move{Op: op, R: 9, A: 9, B: 9, W: 8}))
				k.refuses("no instruction", add(b, at, api.Move{Op: op, R: 9, A: 9, B: 9, W: 8}))
			}
		}
	}
	for _, m := range []api.Move{jump(1), jump(0), fork(9, 1, 1), ret(), leap(0), stop(0)} {
		for b := range 2 {
			for at := range k.code[b] {
				k.refuses("a block ends ahead of its end", add(b, at, m))
			}
		}
		k.refuses("behind the end", add(0, 5, m))
		k.refuses("behind the end", add(1, 7, m))
	}
	for _, m := range []api.Move{li(9, 0), mov(9, 10), reckon(api.Add, 9, 10, 10), ld(9, 0, 8), st(9, 0, 8), lea(9, 0), sp(0)} {
		k.takes("ahead of the end", add(0, 4, m))
		k.refuses("at the end", add(0, 5, m))
		k.refuses("at the end", add(1, 7, m))
		k.refuses("in place of the end", put(1, 6, m))
	}
	k.refuses("nothing at the end", drop(1, 6))
	k.refuses("nothing at the end of block 0", drop(0, 4))
	k.refuses("nothing at all", whole(1))
	k.refuses("nothing at all in block 0", whole(0))
}
