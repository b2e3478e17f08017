package prologue_test

import (
	"math"
	"slices"
	"testing"

	"prologue/api"
	"prologue/plain"
)

// isEnded: a function without anything, on a stack of 128 bytes, with 50 steps.
func isEnded(t *testing.T, name string, table api.Table, moves []api.Move, want api.Outcome) {
	t.Helper()
	isExecuted(t, name, table, coded(sig(0), body(moves...)), start{stack: 128, steps: 50}, want)
}

func TestP12Operations(t *testing.T) {
	const most = math.MaxUint64
	for _, x := range []struct {
		op         int
		a, b, want uint64
	}{
		{api.Add, 1, 2, 3}, {api.Add, most, 1, 0},
		{api.Sub, 5, 3, 2}, {api.Sub, 3, 5, most - 1},
		{api.Mul, 6, 7, 42}, {api.Mul, 1 << 32, 1 << 32, 0}, {api.Mul, most, most, 1},
		{api.And, 0xFF00FF, 0xF0F0F0, 0xF000F0},
		{api.Xor, 0xFF00FF, 0xF0F0F0, 0x0FF00F},
		{api.Less, 1, 2, 1}, {api.Less, 2, 1, 0}, {api.Less, 2, 2, 0}, {api.Less, 1<<63 - 1, 1 << 63, 1}, {api.Less, most, 0, 0},
		{api.Same, 2, 2, 1}, {api.Same, 2, 3, 0}, {api.Same, 1, 1<<32 + 1, 0},
	} {
		for r := range 3 {
			c := coded(sig(1, 0, 0), body(reckon(x.op, r, 0, 1), mov(0, r), ret()))
			isExecuted(t, "an operation", tableT(), c, start{args: []uint64{x.a, x.b}, stack: 32, steps: 9}, doneAt(3, 8, x.want))
			isExecuted(t, "an operation", tableU(), c, start{args: []uint64{x.a, x.b}, stack: 32, steps: 9}, doneAt(3, 16, x.want))
		}
	}
	for _, n := range []int64{0, 1, -1, math.MinInt64, math.MaxInt64} {
		isExecuted(t, "Li", tableT(), coded(sig(2), body(li(1, n), mov(0, 1), ret())), start{stack: 32, steps: 9}, doneAt(3, 8, uint64(n), uint64(n)))
		isEnded(t, "Stop", tableT(), []api.Move{stop(n)}, trapped(1, 8, uint64(n)))
	}
}

// Each width at places below SP: of a word that is written the lowest bytes, of one that is read zeros above.
func TestP12Widths(t *testing.T) {
	const word = 0x8899AABBCCDDEEFF
	for _, width := range []int{1, 2, 4, 8} {
		for at := 96; at <= 120-width; at++ {
			bytes := make([]byte, 128)
			for i := range bytes[:120] { // behind them stands the return address, 0
				bytes[i] = byte(7*i + 3)
			}
			before, n := loadBytes(bytes, at, width), int64(at-120)
			for k := range width {
				bytes[at+k] = byte(uint64(word) >> (8 * k))
			}
			for _, m := range []int64{n - 8, n, n + 7} {
				if m > 0 {
					continue
				}
				c := coded(sig(2, 0), body(ld(1, n, width), st(0, n, width), ld(0, m, 8), ret()))
				isExecuted(t, "a width", tableT(), c, start{args: []uint64{word}, stack: 128, steps: 9}, doneAt(4, 8, loadBytes(bytes, 120+int(m), 8), before))
				// by an address in a register
				c.Funcs[0] = body(ld(1, n, width), st(0, n, width), lea(4, 3), ldx(0, 4, m-3), ret())
				isExecuted(t, "an address", tableT(), c, start{args: []uint64{word}, stack: 128, steps: 9}, doneAt(5, 8, loadBytes(bytes, 120+int(m), 8), before))
			}
		}
	}
}

// tens: a function that gives ten times its word and the number that it is to come back to.
func tens(t api.Table) [][]api.Move {
	a, b := t.Temps[0], t.Temps[1]
	number := ld(b, 0, 8)
	if t.Link != -1 {
		number = mov(b, t.Link)
	}
	return body(li(a, 10), reckon(api.Mul, 0, 0, a), number, reckon(api.Add, 0, 0, b), ret())
}

// framed: what a function does between its beginning and its end; 24 bytes keep SP aligned by T, 32 by U, where Link is kept.
func framed(t api.Table, moves ...api.Move) []api.Move {
	if t.Link == -1 {
		return slices.Concat([]api.Move{sp(-24)}, moves, []api.Move{sp(24), ret()})
	}
	return slices.Concat([]api.Move{sp(-32), st(t.Link, 24, 8)}, moves, []api.Move{ld(t.Link, 24, 8), sp(32), ret()})
}

// Calls are numbered function by function, block by block, whoever makes them and whether they are ever made; each goes on behind itself.
func TestP12Numbers(t *testing.T) {
	for k, table := range []api.Table{tableT(), tableU()} {
		c := coded(sig(1, 0),
			[][]api.Move{framed(table, calls(1), reckon(api.Add, 0, 0, 0), calls(1)), {calls(-7), calls(99)}, nil}, // 1 to 4
			tens(table),
			[][]api.Move{{jump(2)}, {calls(1)}, framed(table, calls(1), calls(1), calls(0))}, // 5 to 8
			body(framed(table, calls(2), calls(1))...))                                       // 9, 10
		frame := len(framed(table))
		isExecuted(t, "the first ones", table, c, start{args: []uint64{7}, stack: 512, steps: 99}, doneAt(frame+13, []int{40, 48}[k], 1422))
		isExecuted(t, "of another function", table, c, start{f: 2, args: []uint64{0}, stack: 512, steps: 99}, doneAt(2*frame+27, []int{72, 80}[k], 13422))
		isExecuted(t, "and of one more", table, c, start{f: 3, args: []uint64{0}, stack: 512, steps: 99}, doneAt(3*frame+34, []int{104, 112}[k], 134230))
		isExecuted(t, "the called one alone", table, c, start{f: 1, args: []uint64{7}, stack: 512, steps: 99}, doneAt(5, []int{8, 16}[k], 70))
	}
}

// A call, within the code and to outside, at each SP.
func TestP12Align(t *testing.T) {
	for _, align := range []int{8, 16, 32} {
		for _, base := range []api.Table{tableT(), tableU()} {
			table := aligned(base, align, 0)
			for n := range 70 {
				at := 128 - pushedBytes(table) - n
				c := coded(sig(0), body(sp(int64(-n)), calls(1)), body(stop(8)))
				c.Externs = []api.Sig{sig(0)}
				called := trapped(3, 128-at+pushedBytes(table), 8)
				asked := with(trapped(3, 128-at, 9), api.Event{})
				if at%align != 0 {
					called, asked = faulty(api.FaultAlign, 2, 128-at), faulty(api.FaultAlign, 2, 128-at)
				}
				isExecuted(t, "Calls", table, c, start{stack: 128, steps: 9}, called)
				c.Funcs[0] = body(sp(int64(-n)), exts(0), stop(9))
				isExecuted(t, "Exts", table, c, start{stack: 128, steps: 9}, asked)
			}
		}
	}
}

// Which comes first: SP that is not aligned, a stack that is full, a function that there is not.
func TestP12CallOrder(t *testing.T) {
	for _, f := range []int{-1, 1, 2, math.MinInt, math.MaxInt} {
		isEnded(t, "not aligned", tableT(), []api.Move{calls(f)}, faulty(api.FaultAlign, 1, 8))
		isEnded(t, "not aligned, and nothing to ask", tableT(), []api.Move{exts(f)}, faulty(api.FaultAlign, 1, 8))
		isEnded(t, "not aligned, with Link", tableU(), []api.Move{sp(-8), calls(f)}, faulty(api.FaultAlign, 2, 24))
		isEnded(t, "no function, though pushed", tableT(), []api.Move{sp(-8), calls(f)}, faulty(api.FaultCode, 2, 24))
		isEnded(t, "no function", tableU(), []api.Move{calls(f)}, faulty(api.FaultCode, 1, 16))
		isEnded(t, "full", tableT(), []api.Move{sp(-120), calls(f)}, full(2, 128))
		isEnded(t, "no function, with the least SP", tableU(), []api.Move{sp(-112), calls(f)}, faulty(api.FaultCode, 2, 128))
		isEnded(t, "nothing to ask", tableT(), []api.Move{sp(-8), exts(f)}, faulty(api.FaultCode, 2, 16))
		isEnded(t, "nothing to ask, with Link", tableU(), []api.Move{exts(f)}, faulty(api.FaultCode, 1, 16))
		isEnded(t, "Leap", tableT(), []api.Move{leap(f)}, faulty(api.FaultCode, 1, 8))
		isEnded(t, "Leap, with Link", tableU(), []api.Move{sp(-3), leap(f)}, faulty(api.FaultCode, 2, 19))
	}
	// each call takes 16 bytes: the one at SP 16 is the last one that there is room for
	isEnded(t, "deeper and deeper", tableT(), []api.Move{sp(-8), calls(0)}, full(16, 128))
	isEnded(t, "deeper and deeper, with Link", tableU(), []api.Move{sp(-16), calls(0)}, full(15, 128))
}

// back: Ret to this number, which stands in Link or in the cell at SP.
func back(t api.Table, number int64) []api.Move {
	if t.Link == -1 {
		return []api.Move{li(4, number), st(4, 0, 8), ret()}
	}
	return []api.Move{li(4, 77), li(t.Link, number), ret()}
}

func TestP12Returns(t *testing.T) {
	for k, table := range []api.Table{tableT(), tableU()} {
		peak := []int{8, 16}[k]
		to := func(number int64) api.Code {
			return coded(sig(1), [][]api.Move{back(table, number), {calls(0), stop(11)}, {stop(1), calls(1)}}, [][]api.Move{{stop(2)}, {stop(3), calls(9), mov(0, 4), stop(13), calls(0)}})
		}
		runs := start{stack: 128, steps: 9}
		isExecuted(t, "to 0", table, to(0), runs, doneAt(3, peak, 7000))
		isExecuted(t, "behind the first call", table, to(1), runs, trapped(4, peak, 11))
		isExecuted(t, "behind the last one of a block", table, to(2), runs, faulty(api.FaultCode, 4, peak))
		isExecuted(t, "behind one in another function", table, to(3), runs, trapped(5, peak, 13))
		isExecuted(t, "behind the last one", table, to(4), runs, faulty(api.FaultCode, 4, peak))
		runs.steps = 3
		isExecuted(t, "behind the last one, and no step is left", table, to(4), runs, spent(3, peak))
		for _, number := range []int64{5, 6, 255, 1 << 32, 1<<32 + 1, 1<<63 - 1, -1 << 63, -1<<63 + 1, -4, -1} {
			isExecuted(t, "to nowhere", table, to(number), runs, faulty(api.FaultReturn, 3, peak))
		}
	}
	// without any call there is no number but 0
	isEnded(t, "to 1", tableT(), back(tableT(), 1), faulty(api.FaultReturn, 3, 8))
	isEnded(t, "to 1, with Link", tableU(), back(tableU(), 1), faulty(api.FaultReturn, 3, 16))
	// SP becomes 8 more: it is told as a result, behind a second Ret
	c := coded(sig(2), [][]api.Move{back(tableT(), 1), {calls(0), mov(1, 11), li(4, 0), st(4, -8, 8), sp(-8), mov(0, 11), ret()}})
	isExecuted(t, "SP behind Ret", tableT(), c, start{stack: 128, steps: 19}, doneAt(9, 8, 120, 128))
	// where the word should be the stack has ended
	for n := int64(1); n <= 8; n++ {
		isEnded(t, "beyond the stack", tableT(), []api.Move{sp(n), ret()}, faulty(api.FaultSpace, 2, 8))
	}
	isEnded(t, "at the stack's beginning", tableT(), []api.Move{sp(-120), ret()}, faulty(api.FaultReturn, 2, 128))
}

// Leap changes nothing: neither SP, whatever it is, nor where it comes back to.
func TestP12Leaps(t *testing.T) {
	for k, table := range []api.Table{tableT(), tableU()} {
		peak := []int{8, 16}[k]
		c := coded(sig(1, 0), body(leap(1)), [][]api.Move{{sp(-3), leap(2)}, {stop(1)}}, body(sp(3), reckon(api.Add, 0, 0, 0), ret()), nil)
		isExecuted(t, "two leaps", table, c, start{args: []uint64{21}, stack: 128, steps: 9}, doneAt(6, peak+3, 42))
		frame := len(framed(table))
		c.Funcs[3] = body(framed(table, calls(0), calls(1))...)
		isExecuted(t, "within a call", table, c, start{f: 3, args: []uint64{5}, stack: 128, steps: 99}, doneAt(frame+13, []int{43, 51}[k], 20))
		c.Funcs[2] = nil
		isExecuted(t, "to a function without a block", table, c, start{args: []uint64{5}, stack: 128, steps: 9}, faulty(api.FaultCode, 4, peak+3))
		isExecuted(t, "and no step is left", table, c, start{args: []uint64{5}, stack: 128, steps: 3}, spent(3, peak+3))
		c.Funcs[0] = body(leap(0))
		isExecuted(t, "without an end", table, c, start{args: []uint64{5}, stack: 128, steps: 999}, spent(999, peak))
	}
}

// In the end SP and Saves must be as they were at the call; all others need not.
func TestP12Kept(t *testing.T) {
	for _, table := range []api.Table{tableT(), tableU(), few(), many()} {
		s := sig(0, 0, 0)
		for r := range table.Regs {
			if r == table.SP || r == table.Link {
				continue
			}
			runs := start{args: []uint64{1, 2}, stack: 128, steps: 9}
			l := slowClassify(table, s)
			peak := up(l.Size+l.Copies, table.Align) + pushedBytes(table)
			want := doneAt(2, peak)
			if slices.Contains(table.Saves, r) {
				want = faulty(api.FaultKept, 2, peak)
			}
			isExecuted(t, "another one", table, coded(s, body(li(r, 1), ret())), runs, want)
			if slices.Contains(table.Saves, r) {
				isExecuted(t, "as it was", table, coded(s, body(li(r, 1), li(r, int64(7000+r)), ret())), runs, doneAt(3, peak))
				isExecuted(t, "another bit", table, coded(s, body(li(r, int64(7000+r)^-1<<63), ret())), runs, want)
			}
		}
	}
	low := []api.Move{sp(-8), li(4, 0), st(4, 0, 8), ret()}
	isEnded(t, "SP is below", tableT(), low, faulty(api.FaultKept, 4, 16))
	isEnded(t, "SP is below, with Link", tableU(), []api.Move{sp(-8), ret()}, faulty(api.FaultKept, 2, 24))
	isEnded(t, "SP is above, with Link", tableU(), []api.Move{sp(16), ret()}, faulty(api.FaultKept, 2, 16))
	isExecuted(t, "SP is above", tableT(), coded(sig(4), body(sp(8), li(4, 0), st(4, 0, 8), ret())), start{stack: 128, steps: 9}, faulty(api.FaultKept, 4, 24))
	// what a function that is called does with them is its own business, if they are well in the end
	c := coded(sig(0), body(sp(-8), calls(1), li(5, 7005), sp(8), ret()), body(li(5, 3), ret()))
	isExecuted(t, "not within", tableT(), c, start{stack: 128, steps: 9}, doneAt(7, 24))
	c = coded(sig(2), body(sp(-8), exts(0), li(5, 0), sp(8), ret()))
	c.Externs = []api.Sig{sig(1)}
	isExecuted(t, "the trace is told, values are not", tableT(), c, start{stack: 128, steps: 9}, with(faulty(api.FaultKept, 5, 16), api.Event{}))
}

// Exts by T: words in the registers 0 to 2, the address of a copy in 3, words in the cells 0 and 8; results in 0, 1 and the cell 16.
func outsider() (api.Sig, []api.Move) {
	return sig(3, 0, 2, 3, 0, 1), []api.Move{
		sp(-56), li(4, 13), st(4, 0, 8), li(4, 14), st(4, 8, 8), li(4, 15), st(4, 16, 8),
		li(4, 20), st(4, 24, 8), li(4, 21), st(4, 32, 8), li(4, 22), st(4, 40, 8), li(4, 16), st(4, -8, 8),
		li(0, 10), li(1, 11), li(2, 12), lea(3, 24), li(8, 88),
	}
}

// asking: what stands in a place behind some calls to outside comes back as the one result.
func asking(tell api.Move, asked ...int) api.Code {
	s, moves := outsider()
	for _, f := range asked {
		moves = append(moves, exts(f))
	}
	c := coded(sig(1), body(append(moves, tell, sp(56), ret())...))
	c.Externs = []api.Sig{sig(0), s}
	return c
}

// What each register and each cell has behind a call to outside, and behind a second one that has no area.
func TestP12Outside(t *testing.T) {
	told := api.Event{F: 1, Words: []uint64{10, 11, 12, 20, 21, 22, 13, 14}}
	runs := start{script: []uint64{31, 32, 33, 34}, stack: 128, steps: 99}
	one := func(name string, tell api.Move, want uint64) {
		t.Helper()
		isExecuted(t, name, tableT(), asking(tell, 1), runs, with(doneAt(24, 64, want), told))
	}
	for r := range 12 {
		first, second := uint64(65536+r), uint64(131072+r)
		switch r {
		case 0, 1:
			first = uint64(31 + r)
		case 5, 6, 7:
			first, second = uint64(7000+r), uint64(7000+r)
		case 11:
			first, second = 64, 64
		}
		one("a register", mov(0, r), first)
		isExecuted(t, "a register behind the second one", tableT(), asking(mov(0, r), 1, 0), runs, with(doneAt(25, 64, second), told, api.Event{}))
	}
	for at, want := range map[int64]uint64{-8: 16, 0: 66536, 8: 66544, 16: 33, 24: 20, 32: 21, 40: 22, 56: 0} {
		one("a cell", ld(0, at, 8), want)
		isExecuted(t, "a cell behind the second one", tableT(), asking(ld(0, at, 8), 1, 0), runs, with(doneAt(25, 64, want), told, api.Event{}))
	}
	isExecuted(t, "steps", tableT(), asking(mov(0, 0), 1), start{stack: 128, steps: 20}, spent(20, 64))
	isExecuted(t, "steps", tableT(), asking(mov(0, 0), 1), start{stack: 128, steps: 21}, with(spent(21, 64), told))
}

// By U the area has a shadow, and the link is spoilt as all that is not to be kept.
func TestP12OutsideWithLink(t *testing.T) {
	asks := func(tell api.Move) api.Code {
		c := coded(sig(1), body(sp(-48), st(12, 40, 8), exts(0), exts(1), exts(0), tell, ld(12, 40, 8), sp(48), ret()))
		c.Externs = []api.Sig{sig(0), sig(3)}
		return c
	}
	runs := start{script: []uint64{31, 32, 33}, stack: 128, steps: 99}
	trace := []api.Event{{F: 0}, {F: 1}, {F: 0}}
	for r := range 14 {
		want := uint64(3*65536 + r)
		switch r {
		case 6, 7, 8, 9:
			want = uint64(7000 + r)
		case 13:
			want = 64
		}
		isExecuted(t, "a register", tableU(), asks(mov(0, r)), runs, with(doneAt(9, 64, want), trace...))
	}
	for at, want := range map[int64]uint64{0: 3*65536 + 1000, 8: 3*65536 + 1008, 16: 33, 40: 0} {
		isExecuted(t, "a cell", tableU(), asks(ld(0, at, 8)), runs, with(doneAt(9, 64, want), trace...))
	}
}

// The script, and 0 behind its end, be it within an answer.
func TestP12Script(t *testing.T) {
	script := []uint64{21, 22, 23, 24, 25}
	for n := range len(script) + 1 {
		told := make([]uint64, 5)
		copy(told, script[:n])
		for k, tell := range [][]api.Move{{mov(5, 0)}, {mov(5, 1)}, {ld(5, 0, 8)}} {
			first := slices.Concat([]api.Move{sp(-24), exts(0)}, tell, []api.Move{mov(0, 5), li(5, 7005), sp(24), ret()})
			second := slices.Concat([]api.Move{sp(-24), exts(0), exts(1), exts(2)}, tell, []api.Move{mov(0, 5), li(5, 7005), sp(24), ret()})
			c := coded(sig(1), body(first...), body(second...))
			c.Externs = []api.Sig{sig(3), sig(0), sig(2)}
			runs := start{script: script[:n], stack: 64, steps: 9}
			isExecuted(t, "the first answer", tableT(), c, runs, with(doneAt(7, 32, told[k]), api.Event{F: 0}))
			runs.f = 1
			want := with(doneAt(9, 32, told[3:][k%2]), api.Event{F: 0}, api.Event{F: 1}, api.Event{F: 2})
			if k == 2 { // the second one has no cell: what the first one left is there still
				want.Values = []uint64{told[2]}
			}
			isExecuted(t, "the second answer", tableT(), c, runs, want)
		}
	}
}

// Copies by their addresses; arguments and the area beyond the stack.
func TestP12OutsideAddresses(t *testing.T) {
	byAddress := func(n int64) api.Code {
		c := coded(sig(0), body(sp(-8), li(0, n), exts(0), stop(1)))
		c.Externs = []api.Sig{sig(1, 3)}
		return c
	}
	runs := start{stack: 128, steps: 9}
	bytes := make([]byte, 128)
	for i := range bytes[:120] {
		bytes[i] = byte(7*i + 3)
	}
	for at := range 105 {
		words := []uint64{loadBytes(bytes, at, 8), loadBytes(bytes, at+8, 8), loadBytes(bytes, at+16, 8)}
		isExecuted(t, "a copy", tableT(), byAddress(int64(at)), runs, with(trapped(4, 16, 1), api.Event{Words: words}))
	}
	for _, n := range []int64{105, 112, 113, 120, 128, 129, 1 << 32, math.MaxInt64 - 24, math.MaxInt64 - 7, math.MaxInt64} {
		isExecuted(t, "a copy beyond", tableT(), byAddress(n), runs, faulty(api.FaultSpace, 3, 16))
	}
	for _, n := range []int64{-1, -8, -16, -24, math.MinInt64, math.MinInt64 + 24} {
		isExecuted(t, "a copy below", tableT(), byAddress(n), runs, full(3, 16))
	}
	two := func(a, b int64) api.Code {
		c := coded(sig(0), body(sp(-8), li(0, a), li(1, b), exts(0), stop(1)))
		c.Externs = []api.Sig{sig(0, 3, 4)}
		return c
	}
	isExecuted(t, "the first one beyond", tableT(), two(112, -8), runs, faulty(api.FaultSpace, 4, 16))
	isExecuted(t, "the first one below", tableT(), two(-8, 112), runs, full(4, 16))
	isExecuted(t, "the second one beyond", tableT(), two(0, 104), runs, faulty(api.FaultSpace, 4, 16))
	isExecuted(t, "the second one below", tableT(), two(104, -1), runs, full(4, 16))
	// cells of arguments, a copy's address among them: nothing is told
	high := func(s api.Sig, n int64) api.Code {
		c := coded(sig(0), body(sp(n), exts(0), stop(1)))
		c.Externs = []api.Sig{s}
		return c
	}
	isExecuted(t, "a cell beyond", tableT(), high(sig(0, 0, 0, 0, 0, 0), 8), runs, faulty(api.FaultSpace, 2, 8))
	isExecuted(t, "an address beyond", tableT(), high(sig(0, 0, 0, 0, 0, 3), 8), runs, faulty(api.FaultSpace, 2, 8))
	isExecuted(t, "a cell of a block beyond", aligned(tableT(), 8, 0), high(sig(0, 0, 0, 0, 2), 0), runs, faulty(api.FaultSpace, 2, 8))
	// the area is written once the arguments were told
	isExecuted(t, "a result beyond", tableT(), high(sig(3), 8), runs, with(faulty(api.FaultSpace, 2, 8), api.Event{}))
	isExecuted(t, "a shadow beyond", tableU(), high(sig(0, 0), 16), runs, with(faulty(api.FaultSpace, 2, 16), api.Event{Words: []uint64{7000}}))
	isExecuted(t, "a part of the shadow beyond", aligned(tableU(), 8, 24), high(sig(0), 8), runs, with(faulty(api.FaultSpace, 2, 24), api.Event{}))
	isExecuted(t, "an area that ends where the stack does", tableU(), high(sig(0), 0), runs, with(trapped(3, 16, 1), api.Event{}))
}

// An address: the register is looked at first, then the width, then whether it is below 0, then whether it is beyond.
func TestP12Addresses(t *testing.T) {
	wide := []int{math.MinInt, -8, -1, 0, 3, 5, 6, 7, 9, 16, 256 + 8, 1<<32 + 1, math.MaxInt}
	places := []int64{math.MinInt64, -9999, -121, -8, 0, 1, 8, 9999, math.MaxInt64 - 120, math.MaxInt64}
	for _, op := range []int{api.Ld, api.St} {
		one := func(name string, r int, n int64, w int, want api.Outcome) {
			t.Helper()
			isEnded(t, name, tableT(), []api.Move{{Op: op, R: r, N: n, W: w}, stop(1)}, want)
		}
		for _, n := range places {
			for _, w := range wide {
				one("no width", 0, n, w, faulty(api.FaultSpace, 1, 8))
				one("no register, no width", 12, n, w, faulty(api.FaultCode, 1, 8))
			}
		}
		for _, w := range []int{1, 2, 4, 8} {
			for _, n := range []int64{-120, -119, -64, -9, -8, int64(-w), 1 - int64(w), 0, 8 - int64(w)} {
				one("in the stack", 0, n, w, trapped(2, 8, 1))
			}
			for _, n := range []int64{9 - int64(w), 8, 9, 9999, 1 << 40, math.MaxInt64 - 121, math.MaxInt64 - 120} {
				one("beyond", 0, n, w, faulty(api.FaultSpace, 1, 8))
			}
			for _, n := range []int64{-121, -122, -128, -9999, math.MinInt64, math.MinInt64 + 1, math.MaxInt64 - 119, math.MaxInt64} {
				one("below 0", 0, n, w, full(1, 8))
				one("no register", -1, n, w, faulty(api.FaultCode, 1, 8))
			}
		}
	}
	for _, x := range []struct {
		a, n int64
		want api.Outcome
	}{
		{0, 0, trapped(3, 8, 1)}, {120, 0, trapped(3, 8, 1)}, {0, 120, trapped(3, 8, 1)}, {-1, 1, trapped(3, 8, 1)}, {200, -80, trapped(3, 8, 1)},
		{math.MinInt64, math.MinInt64, trapped(3, 8, 1)}, {math.MaxInt64, math.MinInt64 + 121, trapped(3, 8, 1)},
		{121, 0, faulty(api.FaultSpace, 2, 8)}, {120, 1, faulty(api.FaultSpace, 2, 8)}, {128, 0, faulty(api.FaultSpace, 2, 8)}, {math.MaxInt64, 0, faulty(api.FaultSpace, 2, 8)}, {-1, math.MinInt64, faulty(api.FaultSpace, 2, 8)},
		{-1, 0, full(2, 8)}, {0, -1, full(2, 8)}, {120, -121, full(2, 8)}, {math.MaxInt64, 1, full(2, 8)}, {math.MinInt64, 0, full(2, 8)}, {1, math.MaxInt64, full(2, 8)},
	} {
		isEnded(t, "Ldx", tableT(), []api.Move{li(4, x.a), ldx(0, 4, x.n), stop(1)}, x.want)
		isEnded(t, "Ldx without a register to come into", tableT(), []api.Move{li(4, x.a), ldx(12, 4, x.n), stop(1)}, faulty(api.FaultCode, 2, 8))
	}
	isEnded(t, "the width of Ldx is not asked for", tableT(), []api.Move{{Op: api.Ldx, R: 0, A: 11, W: 3}, stop(1)}, trapped(2, 8, 1))
}

// settings of SP to a number, one for each instruction that can do it.
func settings(v int64) map[string][]api.Move {
	return map[string][]api.Move{
		"Li":  {li(11, v)},
		"Mov": {li(4, v), mov(11, 4)},
		"Add": {li(4, v), li(3, 0), reckon(api.Add, 11, 3, 4)},
		"Sub": {li(4, v), li(3, 0), reckon(api.Sub, 11, 4, 3)},
		"Mul": {li(4, v), li(3, 1), reckon(api.Mul, 11, 3, 4)},
		"And": {li(4, v), reckon(api.And, 11, 4, 4)},
		"Xor": {li(4, v), li(3, 0), reckon(api.Xor, 11, 3, 4)},
		"Ld":  {li(4, v), st(4, -8, 8), ld(11, -8, 8)},
		"Ldx": {li(4, v), st(4, -8, 8), lea(4, 0), ldx(11, 4, -8)},
		"Lea": {lea(11, v-120)},
		"Sp":  {sp(v - 120)},
	}
}

func TestP12StackPointer(t *testing.T) {
	for _, v := range []int64{0, 1, 8, 63, 64, 119, 120, 121, 127, 128} {
		for name, moves := range settings(v) {
			isEnded(t, name, tableT(), append(moves, stop(1)), trapped(len(moves)+1, max(8, 128-int(v)), 1))
		}
	}
	for _, v := range []int64{129, 136, 65536, 1 << 32, 1<<32 + 8, math.MaxInt64} {
		for name, moves := range settings(v) {
			isEnded(t, name+", too high", tableT(), append(moves, stop(1)), faulty(api.FaultSpace, len(moves), 8))
		}
	}
	for _, v := range []int64{-1, -8, -128, -1 << 32, math.MinInt64, math.MinInt64 + 120} {
		for name, moves := range settings(v) {
			isEnded(t, name+", below 0", tableT(), append(moves, stop(1)), full(len(moves), 8))
		}
	}
	isEnded(t, "Less", tableT(), []api.Move{reckon(api.Less, 11, 0, 1), stop(1)}, trapped(2, 127, 1))
	isEnded(t, "Same", tableT(), []api.Move{reckon(api.Same, 11, 0, 1), stop(1)}, trapped(2, 128, 1))
	isEnded(t, "Sp goes round", tableT(), []api.Move{sp(math.MaxInt64), stop(1)}, full(1, 8))
	isEnded(t, "the least one counts, not the last one", tableT(), []api.Move{sp(-40), sp(-60), sp(100), sp(-50), stop(1)}, trapped(5, 108, 1))
	isEnded(t, "Peak of a run that is spent", tableT(), []api.Move{sp(-1), jump(0)}, spent(50, 33))
	isEnded(t, "what is not set does not count", tableT(), []api.Move{sp(-100), sp(90), sp(-111), stop(1)}, full(3, 108))
}

// Registers that there are not, in each field that an instruction needs; what stands in the others does not matter.
func TestP12Registers(t *testing.T) {
	for _, table := range []api.Table{tableT(), tableU(), few(), many()} {
		for op := api.Li; op <= api.Fork; op++ {
			need := []int{0, 1, 2, 3, 3, 3, 3, 3, 3, 3, 1, 1, 2, 1, 0, 0, 0, 0, 1}[op]
			for field := range 3 {
				for _, r := range []int{-1, -2, table.Regs, table.Regs + 1, 16, 17, 1 << 32, math.MinInt, math.MaxInt} {
					i := api.Move{Op: op, W: 8}
					if op == api.Ldx {
						i.A = table.SP
					}
					*[]*int{&i.R, &i.A, &i.B}[field] = r
					o, f := plain.Execute(table, coded(sig(0), body(i, stop(1))), 0, nil, nil, 128, 1)
					isFault := o.Kind == api.Fault && o.Code == api.FaultCode && o.Steps == 1
					if wrong := field < need; f != fine || isFault != wrong && !(op == api.Calls || op == api.Exts) {
						t.Errorf("op %d with %d in the field %d by %+v: %+v, %+v", op, r, field, table, o, f)
					}
				}
			}
		}
		last := []api.Move{mov(table.Regs-1, 0), mov(0, table.Regs-1)}
		if table.SP != table.Regs-1 && table.SP != 0 {
			isExecuted(t, "the last register", table, coded(sig(0), body(append(last, stop(1))...)), start{stack: 128, steps: 9}, trapped(3, 128-first(table, 128), 1))
		}
	}
}

// Numbers of instructions that there are not.
func TestP12Instructions(t *testing.T) {
	for _, op := range []int{math.MinInt, -1, 0, 22, 23, 256 + api.Ret, 1<<32 + api.Ret, math.MaxInt} {
		isEnded(t, "no instruction", tableT(), []api.Move{{Op: op}, stop(1)}, faulty(api.FaultCode, 1, 8))
		isEnded(t, "no instruction, behind one", tableU(), []api.Move{sp(-8), {Op: op}, stop(1)}, faulty(api.FaultCode, 2, 24))
	}
}

// A block that there is not, and the end of a block: both are found at the next step, which is counted.
func TestP12Blocks(t *testing.T) {
	runs := func(name string, c api.Code, steps int, want api.Outcome) {
		t.Helper()
		isExecuted(t, name, tableT(), c, start{stack: 128, steps: steps}, want)
	}
	for _, b := range []int{math.MinInt, -1, 3, 4, 1 << 32, math.MaxInt} {
		for name, i := range map[string]api.Move{"Jump": jump(b), "Fork": fork(0, b, 1), "Fork to the other": fork(1, 1, b)} {
			c := coded(sig(0), [][]api.Move{{li(1, 0), i}, {stop(1)}, {}})
			runs(name, c, 9, faulty(api.FaultCode, 3, 8))
			runs(name+", and three steps", c, 3, faulty(api.FaultCode, 3, 8))
			runs(name+", and two steps", c, 2, spent(2, 8))
		}
	}
	for name, i := range map[string]api.Move{"Jump": jump(1), "Fork": fork(0, 1, 9), "Fork to the other": fork(1, 9, 1)} {
		runs(name, coded(sig(0), [][]api.Move{{li(1, 0), i, stop(2)}, {stop(1)}}), 9, trapped(3, 8, 1))
		runs(name+" to an empty block", coded(sig(0), [][]api.Move{{li(1, 0), i, stop(2)}, {}, {stop(1)}}), 9, faulty(api.FaultCode, 3, 8))
	}
	for _, r := range []int64{1, -1, 1 << 32, math.MinInt64} {
		runs("Fork by any number but 0", coded(sig(0), [][]api.Move{{li(1, r), fork(1, 1, 2)}, {stop(1)}, {stop(2)}}), 9, trapped(3, 8, 1))
	}
	for n := range 5 {
		c := coded(sig(0), [][]api.Move{make([]api.Move, n), {stop(1)}})
		for k := range n {
			c.Funcs[0][0][k] = li(0, 1)
		}
		runs("the end of a block", c, 9, faulty(api.FaultCode, n+1, 8))
		runs("the end of a block, and so many steps", c, n+1, faulty(api.FaultCode, n+1, 8))
		runs("the end of a block, and no step is left", c, n, spent(n, 8))
	}
	runs("a function without a block", coded(sig(0), nil), 9, faulty(api.FaultCode, 1, 8))
	runs("a call of one", coded(sig(0), body(sp(-8), calls(1)), nil), 9, faulty(api.FaultCode, 3, 24))
	runs("a call at the end of a block", coded(sig(0), body(sp(-8), calls(1)), body(ret())), 9, faulty(api.FaultCode, 4, 24))
	runs("Exts at the end of a block, where there is none", coded(sig(0), body(sp(-8), exts(0))), 9, faulty(api.FaultCode, 2, 16))
	// blocks are those of the function that is at work
	c := coded(sig(0), [][]api.Move{{sp(-8), calls(1), jump(1)}, {stop(1)}}, [][]api.Move{{jump(1)}, {jump(2)}, {ret()}})
	runs("blocks of two functions", c, 99, trapped(7, 24, 1))
}

// Each number of steps: a run that is cut off tells what was told so far.
func TestP12Steps(t *testing.T) {
	c := coded(sig(1), body(sp(-24), exts(0), exts(1), sp(-16), sp(40), li(0, 5), ret()))
	c.Externs = []api.Sig{sig(0, 0), sig(0)}
	trace := []api.Event{{F: 0, Words: []uint64{7000}}, {F: 1}}
	told, peaks := []int{0, 0, 1, 2, 2, 2, 2}, []int{8, 32, 32, 32, 48, 48, 48}
	for steps := range 7 {
		isExecuted(t, "cut off", tableT(), c, start{stack: 128, steps: steps}, with(spent(steps, peaks[steps]), trace[:told[steps]]...))
	}
	for steps := 7; steps < 10; steps++ {
		isExecuted(t, "not cut off", tableT(), c, start{stack: 128, steps: steps}, with(doneAt(7, 48, 5), trace...))
	}
	for kind, i := range map[int]api.Move{api.Trapped: stop(4), api.Full: sp(-8000), api.Fault: sp(8000)} {
		c.Funcs[0][0][6] = i
		want := api.Outcome{Kind: kind, Steps: 7, Peak: 48, Trace: trace}
		if kind == api.Trapped {
			want.Values = []uint64{4}
		}
		if kind == api.Fault {
			want.Code = api.FaultSpace
		}
		isExecuted(t, "another end", tableT(), c, start{stack: 128, steps: 7}, want)
		isExecuted(t, "another end, cut off", tableT(), c, start{stack: 128, steps: 6}, with(spent(6, 48), trace...))
	}
}
