package prologue_test

import (
	"math"
	"reflect"
	"slices"
	"testing"

	"prologue/api"
	"prologue/plain"
	"prologue/prologue"
)

// conventions: tables of all kinds, with pushed return addresses and with Link, with and without Pairs, Shadow, Results and Saves.
func conventions() []api.Table {
	bare := tableT()
	bare.Args, bare.Results, bare.Saves, bare.ByRef, bare.Align = nil, nil, nil, 0, 32
	link := tableU()
	link.Results, link.Saves, link.Shadow, link.Pairs, link.ByRef = nil, nil, 0, false, 4
	wide := many()
	wide.Args, wide.Results, wide.Saves = upward(3, 8), []int{6, 5, 4, 3}, upward(11, 5)
	last := few()
	last.Args, last.Results, last.ByRef, last.Shadow = []int{2}, []int{2}, 1, 8
	linked := few()
	linked.Link, linked.Align = 2, 16
	kept := few()
	kept.Saves = []int{2}
	back := tableU()
	back.Link, back.Args, back.Results, back.Align, back.ByRef = -1, []int{5, 3, 2, 1, 0}, []int{0, 1, 2, 3}, 8, 3
	return []api.Table{tableT(), tableU(), bare, link, wide, last, linked, kept, back}
}

// homings: homes for so many locals, each time others: cells, registers by rising and by falling numbers, registers and cells in turn, and those of Args, of Results and of Saves, both ways.
func homings(t api.Table, locals int) [][]int {
	var free []int
	for r := range t.Regs {
		if r != t.SP && r != t.Link && r != t.Temps[0] && r != t.Temps[1] {
			free = append(free, r)
		}
	}
	all := [][]int{nil, free, slices.Concat(t.Args[min(1, len(t.Args)):], t.Args[:min(1, len(t.Args))])}
	var mixed []int
	for _, r := range free {
		mixed = append(mixed, -1, r)
	}
	all = append(all, mixed)
	for _, l := range [][]int{free, t.Args, t.Results, t.Saves} {
		falling := slices.Clone(l)
		slices.Reverse(falling)
		all = append(all, l, falling, slices.Concat([]int{-1, -1}, falling))
	}
	for k, l := range all {
		all[k] = slices.Concat(l, slices.Repeat([]int{-1}, locals))[:locals]
	}
	return all
}

// lowered: the code of a program, which must be right by Validate and by the checker of the tests.
func lowered(t *testing.T, name string, table api.Table, p api.Program) api.Code {
	t.Helper()
	c, fault := plain.Lower(table, p)
	if fault != fine {
		t.Fatalf("%s: Lower = %+v, by %+v, of %+v", name, fault, table, p)
	}
	for f := range p.Funcs {
		if wrong := slowValidate(table, p, c, f); wrong != "" {
			t.Fatalf("%s: the function %d: %s, of %+v, by %+v, of %+v", name, f, wrong, c.Funcs[f], table, p)
		}
		if ok, err := prologue.Validate(table, p, c, f); !ok || err != nil {
			t.Fatalf("%s: Validate = %v, %v of the function %d: %+v, by %+v, of %+v", name, ok, err, f, c.Funcs[f], table, p)
		}
	}
	return c
}

// factor: K of P16.
func factor(c api.Code) int {
	most := 0
	for _, blocks := range c.Funcs {
		n := 0
		for _, b := range blocks {
			n += len(b)
		}
		most = max(most, n)
	}
	return most + 1
}

func sameEnd(a, b api.Outcome) bool {
	return a.Kind == b.Kind && slices.Equal(a.Values, b.Values) && len(a.Trace) == len(b.Trace) && beginsAlike(a, b)
}

// beginsAlike: one trace is the beginning of the other.
func beginsAlike(a, b api.Outcome) bool {
	n := min(len(a.Trace), len(b.Trace))
	return slices.EqualFunc(a.Trace[:n], b.Trace[:n], func(x, y api.Event) bool { return x.F == y.F && slices.Equal(x.Words, y.Words) })
}

// agree: code and the program that it was made of, on stacks of many sizes: what P16 and P17 say of both. Its answer is what comes of the program, and of the code on the largest stack; and who watched.
func agree(t *testing.T, name string, table api.Table, p api.Program, c api.Code, s start) (api.Outcome, api.Outcome, *watcher) {
	t.Helper()
	o, err := prologue.Interpret(table, p, s.f, s.args, s.script, s.steps)
	if err != nil {
		t.Fatalf("%s: Interpret: %v", name, err)
	}
	steps := min(factor(c)*(o.Steps+1), api.MaxSteps)
	if o.Kind == api.Spent { // then nothing is said of the end
		steps = min(steps, 2000)
	}
	var q api.Outcome
	for _, stack := range []int{0, 32, 64, 96, 128, 160, 256, 320, 512, 1024, 4096, s.stack} {
		q, err = prologue.Execute(table, c, s.f, s.args, s.script, stack, steps)
		if err != nil || q.Kind == api.Fault || !beginsAlike(o, q) {
			t.Fatalf("%s, %d bytes: Execute = %+v, %v, want %+v, by %+v, of %+v", name, stack, q, err, o, table, p)
		}
		if o.Kind != api.Spent && !sameEnd(o, q) && (q.Kind != api.Full || len(q.Trace) > len(o.Trace)) {
			t.Fatalf("%s, %d bytes: Execute = %+v, want %+v, by %+v, of %+v", name, stack, q, o, table, p)
		}
	}
	w := watch(table, p)
	if slow := slowWatched(table, c, s.f, s.args, s.script, 1024, min(steps, 1000), w); slow.Kind == api.Fault || w.wrong != "" {
		t.Fatalf("%s: %+v: %s, by %+v, of %+v", name, slow, w.wrong, table, p)
	}
	return o, q, w
}

// isLowered: the program is lowered, and what comes of its function 0 must be this. Its code is also tried with one instruction changed.
func isLowered(t *testing.T, name string, table api.Table, p api.Program, args, script []uint64, want api.Outcome) api.Code {
	t.Helper()
	c := lowered(t, name, table, p)
	s := start{args: args, script: script, stack: 8192, steps: 5000}
	o, q, _ := agree(t, name, table, p, c, s)
	if !sameEnd(q, want) {
		t.Errorf("%s: Execute = %+v, want %+v, Interpret = %+v, by %+v, of %+v", name, q, want, o, table, p)
	}
	new(tally).changes(t, newMaker(int64(factor(c)+7*o.Steps+len(name))), table, p, c, s, 1)
	return c
}

func given(values ...uint64) api.Outcome { return api.Outcome{Kind: api.Done, Values: values} }

// The instructions of a program, each with what it needs.
func local(l ...int) (args []api.Arg) {
	for _, n := range l {
		args = append(args, api.Arg{From: n})
	}
	return args
}

func called(f int, args []api.Arg, outs ...int) api.Ins {
	return api.Ins{Op: api.Call, F: f, Args: args, Outs: outs}
}

func asked(f int, args []api.Arg, outs ...int) api.Ins {
	return api.Ins{Op: api.Ext, F: f, Args: args, Outs: outs}
}

func tailed(f int, args ...api.Arg) api.Ins { return api.Ins{Op: api.Tail, F: f, Args: args} }

func gives(outs ...int) api.Ins { return api.Ins{Op: api.Return, Outs: outs} }

func loads(d, slot, at, width int) api.Ins {
	return api.Ins{Op: api.Load, D: d, A: slot, B: at, N: uint64(width)}
}

func stores(d, slot, at, width int) api.Ins {
	return api.Ins{Op: api.Store, D: d, A: slot, B: at, N: uint64(width)}
}

func sets(d int, n uint64) api.Ins { return api.Ins{Op: api.Const, D: d, N: n} }

func goes(block int) api.Ins { return api.Ins{Op: api.Goto, A: block} }

func forks(d, a, b int) api.Ins { return api.Ins{Op: api.If, D: d, A: a, B: b} }

func copies(d, a int) api.Ins { return api.Ins{Op: api.Copy, D: d, A: a} }

func makes(op, d, a, b int) api.Ins { return api.Ins{Op: op, D: d, A: a, B: b} }

// words as parameters, into the first locals.
func words(n int) (l []api.Param) {
	for k := range n {
		l = append(l, api.Param{To: k})
	}
	return l
}

func TestP13Example(t *testing.T) {
	c := isLowered(t, "the document's", tableT(), adder(), []uint64{40, 2}, nil, given(42))
	if len(c.Funcs) != 1 || len(c.Funcs[0]) != 2 {
		t.Errorf("it has not two blocks: %+v", c)
	}
	isLowered(t, "by U", tableU(), adder(), []uint64{40, 2}, nil, given(42))
	c = isLowered(t, "a function that does nothing", tableU(), small(), nil, nil, given())
	if !reflect.DeepEqual(c, coded(sig(0), [][]api.Move{{jump(1)}, {ret()}})) {
		t.Errorf("a function that does nothing: %+v", c)
	}
	for _, table := range conventions() {
		isLowered(t, "a function that does nothing", table, small(), nil, nil, given())
		isLowered(t, "a trap", table, alone(api.Ins{Op: api.Trap, N: math.MaxUint64}), nil, nil, api.Outcome{Kind: api.Trapped, Values: []uint64{math.MaxUint64}})
	}
}

func isNotLowered(t *testing.T, name string, table api.Table, p api.Program, want plain.Fault) {
	t.Helper()
	if c, f := plain.Lower(table, p); f != want || !reflect.DeepEqual(c, api.Code{}) {
		t.Errorf("%s: Lower = %+v, %+v, want %+v", name, c, f, want)
	}
}

// Which error comes first.
func TestP13Errors(t *testing.T) {
	table := tableU()
	table.Args = nil
	p := crowded(60)
	p.Funcs = append(p.Funcs, p.Funcs[1], p.Funcs[0])
	isNotLowered(t, "the first frame of two that are too large", table, p, tooLarge(1))
	p.Funcs[0], p.Funcs[1] = p.Funcs[1], p.Funcs[0]
	isNotLowered(t, "the first function", table, p, tooLarge(0))
	p.Funcs[0] = p.Funcs[1]
	isNotLowered(t, "the third one", table, p, tooLarge(2))
	p.Funcs[3].Blocks = [][]api.Ins{{{Op: api.Return}, {Op: api.Return}}}
	isNotLowered(t, "an instruction of the last one", table, p, badFunc(3, 0, 0))
	p.Funcs[2].Slots = append([]int{9}, p.Funcs[2].Slots...)
	isNotLowered(t, "a slot", table, p, badFunc(2, -1, -1))
	p.Externs[0].Params = make([]int, 9)
	isNotLowered(t, "a signature", table, p, badFunc(-1, -1, -1))
	if _, err := prologue.Lower(table, p); !placeless(err, api.ErrFunc) {
		t.Errorf("a signature: %#v", err)
	}
	table.Regs = 17
	isNotLowered(t, "the table", table, p, plain.Fault{E: int(api.ErrTable), Func: -1, Block: -1, At: -1})
	if _, err := prologue.Lower(table, p); !placeless(err, api.ErrTable) {
		t.Errorf("the table: %#v", err)
	}
	isNotLowered(t, "no program at all", tableT(), api.Program{}, badFunc(-1, -1, -1))
	isNotLowered(t, "no table", api.Table{}, small(), plain.Fault{E: int(api.ErrTable), Func: -1, Block: -1, At: -1})
	isNotLowered(t, "very many functions", tableT(), api.Program{Funcs: make([]api.Func, 1<<20)}, badFunc(-1, -1, -1))
}

// A frame of just MaxFrame bytes, and one that is larger.
func TestP13LargeFrames(t *testing.T) {
	large, fits := 0, 0
	for _, table := range conventions() {
		table.Args, table.Shadow, table.ByRef = nil, 0, 0
		for words := 50; words <= 60; words++ {
			p := crowded(words)
			if _, fault := slowFrame(table, p, 1); fault != fine {
				isNotLowered(t, "too large", table, p, tooLarge(1))
				large++
				continue
			}
			c := lowered(t, "large", table, p)
			agree(t, "large", table, p, c, start{f: 1, stack: 8192, steps: 9})
			fits++
		}
	}
	if large < 20 || fits < 20 {
		t.Errorf("%d frames were too large, %d were not", large, fits)
	}
}

// The signatures of the code are those of the program, whatever is called.
func TestP13Signatures(t *testing.T) {
	for seed := range int64(200) {
		table := conventions()[seed%9]
		p := makeProgram(seed, table)
		c, err := prologue.Lower(table, p)
		if err != nil {
			continue
		}
		if len(c.Sigs) != len(p.Funcs) || len(c.Funcs) != len(p.Funcs) || !slices.EqualFunc(c.Externs, p.Externs, sameSig) {
			t.Fatalf("seed %d: %+v", seed, c)
		}
		for f := range p.Funcs {
			if !sameSig(c.Sigs[f], sigOf(p.Funcs[f])) {
				t.Errorf("seed %d: the signature of the function %d is %+v", seed, f, c.Sigs[f])
			}
		}
	}
}

// depthOf a block: how far SP is moved in it; and whether nothing that ends a block stands ahead of its last instruction.
func depthOf(moves []api.Move) (depth int, well bool) {
	well = true
	for n, i := range moves {
		if i.Op == api.Sp {
			depth += int(i.N)
		}
		well = well && (i.Op >= api.Jump) == (n == len(moves)-1)
	}
	return depth, well
}

// The code's shape: one block more than the function has, what each one ends with, and how far SP is moved.
func TestP13Shape(t *testing.T) {
	seen := map[int]int{}
	for seed := range int64(300) {
		m := newMaker(seed)
		table := []api.Table{tableT(), tableU(), makeTable(m)}[seed%3]
		p := makeProgram(seed, table)
		c, err := prologue.Lower(table, p)
		if err != nil {
			continue
		}
		for f, blocks := range c.Funcs {
			x, _ := slowFrame(table, p, f)
			if len(blocks) != len(p.Funcs[f].Blocks)+1 {
				t.Fatalf("seed %d: the function %d has %d blocks, the program's %d", seed, f, len(blocks), len(p.Funcs[f].Blocks))
			}
			for b, moves := range blocks {
				last := api.Ins{Op: api.Goto, A: 0}
				want := -x.Size
				if b > 0 {
					list := p.Funcs[f].Blocks[b-1]
					last, want = list[len(list)-1], 0
				}
				if last.Op == api.Return || last.Op == api.Tail {
					want = x.Size
				}
				depth, well := depthOf(moves)
				end := moves[len(moves)-1]
				if depth != want || !well || !endsSo(table, p, f, last, end) {
					t.Fatalf("seed %d: function %d, block %d: %+v for %+v", seed, f, b, moves, last)
				}
				seen[end.Op]++
			}
		}
	}
	for op := api.Jump; op <= api.Stop; op++ {
		if seen[op] < 20 {
			t.Errorf("too few blocks end with %d: %v", op, seen)
		}
	}
}

// endsSo: whether this is how a block with this last instruction ends.
func endsSo(table api.Table, p api.Program, f int, last api.Ins, end api.Move) bool {
	switch last.Op {
	case api.Goto:
		return end.Op == api.Jump && end.A == last.A+1
	case api.If:
		return end.Op == api.Fork && end.A == last.A+1 && end.B == last.B+1
	case api.Trap:
		return end.Op == api.Stop && uint64(end.N) == last.N
	case api.Return:
		return end.Op == api.Ret
	}
	own, other := slowClassify(table, sigOf(p.Funcs[f])), slowClassify(table, sigOf(p.Funcs[last.F]))
	if other.Copies == 0 && other.Size <= own.Size && len(other.Results) <= len(table.Results) {
		return end.Op == api.Leap && end.F == last.F
	}
	return end.Op == api.Ret
}

// each convention, with each kind of homes for so many locals.
func each(locals int, f func(table api.Table, homes []int)) {
	for _, table := range conventions() {
		for _, homes := range homings(table, locals) {
			f(table, homes)
		}
	}
}

// Operations, be what they read and set registers or cells, the same local or others.
func TestP13Operations(t *testing.T) {
	const most = math.MaxUint64
	for _, x := range []struct {
		op         int
		a, b, want uint64
	}{
		{api.Add, most, 3, 2}, {api.Sub, 3, 5, most - 1}, {api.Mul, 1<<32 + 1, 1 << 32, 1 << 32}, {api.And, 12, 10, 8}, {api.Xor, 12, 10, 6},
		{api.Less, 1, most, 1}, {api.Less, most, 1, 0}, {api.Same, 7, 7, 1}, {api.Same, 7, 8, 0},
	} {
		each(3, func(table api.Table, homes []int) {
			for d := range 3 {
				p := api.Program{Funcs: []api.Func{{Params: words(2), Results: 1, Homes: homes, Blocks: [][]api.Ins{{makes(x.op, d, 0, 1), gives(d)}}}}}
				isLowered(t, "an operation", table, p, []uint64{x.a, x.b}, nil, given(x.want))
			}
		})
	}
	each(4, func(table api.Table, homes []int) {
		p := api.Program{Funcs: []api.Func{{Params: words(2), Results: 4, Homes: homes, Blocks: [][]api.Ins{{
			sets(2, most-7), copies(3, 0), copies(0, 1), copies(1, 1), makes(api.Add, 1, 1, 1), gives(0, 1, 2, 3),
		}}}}}
		isLowered(t, "Const and Copy", table, p, []uint64{5, 6}, nil, given(6, 12, most-7, 5))
	})
}

// If and Goto, with what is asked for in a register or in a cell: a sum of 1 to n.
func TestP13Loops(t *testing.T) {
	each(3, func(table api.Table, homes []int) {
		p := steps(2)
		p.Funcs[0].Homes = homes
		for n := range uint64(5) {
			isLowered(t, "a sum", table, p, []uint64{n}, nil, given(n*(n+1)/2))
		}
	})
}

// Slots: each width at each place, of a slot that came and of one that is 0 at first.
func TestP13Slots(t *testing.T) {
	const word, behind = 0x8899AABBCCDDEEFF, 0x1122334455667788
	for _, width := range []int{1, 2, 4, 8} {
		for at := 0; at < 16; at += width {
			bytes := make([]byte, 32)
			for k := range 16 {
				bytes[k] = byte(uint64(behind+k/8) >> (8 * (k % 8)))
			}
			before := loadBytes(bytes, at, width)
			for k := range width {
				bytes[at+k], bytes[16+at+k] = byte(uint64(word)>>(8*k)), byte(uint64(word)>>(8*k))
			}
			each(5, func(table api.Table, homes []int) {
				p := api.Program{Externs: []api.Sig{sig(0, 2, 2)}, Funcs: []api.Func{{Params: []api.Param{{Words: 2, To: 1}, {To: 0}}, Results: 4, Homes: homes, Slots: []int{2, 2}, Blocks: [][]api.Ins{{
					loads(1, 1, at, width), stores(0, 1, at, width), stores(0, 0, at, width), asked(0, []api.Arg{{Words: 2, From: 1}, {Words: 2, From: 0}}),
					loads(2, 1, 0, 8), loads(3, 1, 8, 8), loads(4, 0, at, width), gives(1, 2, 3, 4),
				}}}}}
				a, b := loadBytes(bytes, 0, 8), loadBytes(bytes, 8, 8)
				want := with(given(before, a, b, loadBytes(bytes, at, width)), api.Event{Words: []uint64{a, b, loadBytes(bytes, 16, 8), loadBytes(bytes, 24, 8)}})
				isLowered(t, "a slot", table, p, []uint64{behind, behind + 1, word}, nil, want)
			})
		}
	}
}

// Locals and slots into which nothing comes are 0 at first, each time that the function is entered, wherever they are.
func TestP13FirstValues(t *testing.T) {
	each(6, func(table api.Table, homes []int) {
		inner := api.Func{Params: []api.Param{{To: 4}, {Words: 1, To: 1}}, Results: 1, Homes: homes, Slots: []int{2, 1, 3}}
		block := []api.Ins{}
		for k := range 6 {
			block = append(block, makes(api.Add, 4, 4, []int{0, 1, 2, 3, 5, 5}[k]))
		}
		for _, x := range [][2]int{{0, 0}, {0, 8}, {1, 0}, {2, 0}, {2, 8}, {2, 16}} {
			block = append(block, loads(0, x[0], x[1], 8), makes(api.Add, 4, 4, 0))
		}
		block = append(block, stores(4, 0, 8, 8), stores(4, 2, 16, 8), makes(api.Add, 5, 4, 4), gives(4))
		inner.Blocks = [][]api.Ins{block}
		outer := api.Func{Params: words(1), Results: 2, Homes: homes, Slots: []int{1}, Blocks: [][]api.Ins{{
			stores(0, 0, 0, 8), called(1, []api.Arg{{From: 0}, {Words: 1}}, 1), called(1, []api.Arg{{From: 1}, {Words: 1}}, 2), gives(1, 2),
		}}}
		isLowered(t, "what is 0 at first", table, api.Program{Funcs: []api.Func{outer, inner}}, []uint64{7}, nil, given(14, 21))
	})
}

// rotated: the numbers from 0 on, so many, beginning with another one.
func rotated(count, by int) (l []int) {
	for k := range count {
		l = append(l, (k+by)%count)
	}
	return l
}

// turnedLocals: from 0 on, the last one first.
func turnedLocals(count int) []int {
	l := upward(0, count)
	slices.Reverse(l)
	return l
}

// Words as arguments, in registers and in cells, from locals that are handed on in turned order; results into locals in turned order.
func TestP13Words(t *testing.T) {
	for n := 1; n <= 8; n++ {
		outs := min(n, 4)
		for by := range n {
			each(n, func(table api.Table, homes []int) {
				p := api.Program{Funcs: []api.Func{
					{Params: words(n), Results: outs, Homes: homes, Blocks: [][]api.Ins{{called(1, local(rotated(n, by)...), rotated(n, by)[:outs]...), gives(turnedLocals(n)[:outs]...)}}},
					{Params: words(n), Results: outs, Homes: homes, Blocks: [][]api.Ins{{gives(turnedLocals(n)[:outs]...)}}},
				}}
				args := make([]uint64, n)
				has := make([]uint64, n)
				for k := range args {
					args[k] = uint64(100 + k)
					has[k] = args[k]
				}
				for k := range outs { // what the inner one gives is the last word that it was called with, the one ahead of it, ..
					has[(k+by)%n] = args[(n-1-k+by)%n]
				}
				var want []uint64
				for _, k := range turnedLocals(n)[:outs] {
					want = append(want, has[k])
				}
				isLowered(t, "words", table, p, args, nil, given(want...))
			})
		}
	}
}

// One local as many arguments, and as many results.
func TestP13SameWord(t *testing.T) {
	each(8, func(table api.Table, homes []int) {
		for k := range 8 {
			p := api.Program{Externs: []api.Sig{sig(0, make([]int, 8)...)}, Funcs: []api.Func{
				{Params: words(8), Results: 4, Homes: homes, Blocks: [][]api.Ins{{asked(0, local(slices.Repeat([]int{k}, 8)...)), gives(k, 7-k, k, k)}}},
			}}
			args := []uint64{10, 11, 12, 13, 14, 15, 16, 17}
			x, y := args[k], args[7-k]
			isLowered(t, "one local", table, p, args, nil, with(given(x, y, x, x), api.Event{Words: slices.Repeat([]uint64{x}, 8)}))
		}
	})
}

// blocky: a function whose parameters are such words and blocks, one behind the other in locals and slots.
func blocky(params []int, homes []int) (api.Func, []api.Arg) {
	f := api.Func{Homes: homes}
	var args []api.Arg
	locals := 0
	for _, n := range params {
		if n == 0 {
			f.Params, args = append(f.Params, api.Param{To: locals}), append(args, api.Arg{From: locals})
			locals++
			continue
		}
		f.Params, args = append(f.Params, api.Param{Words: n, To: len(f.Slots)}), append(args, api.Arg{Words: n, From: len(f.Slots)})
		f.Slots = append(f.Slots, n)
	}
	return f, args
}

// Blocks of words, in registers, in cells and by reference, with words between them: into a function, to another one, and to somebody outside; each a copy, in which the other one may do what it likes.
func TestP13Blocks(t *testing.T) {
	for _, params := range [][]int{{1}, {2}, {3}, {8}, {2, 2}, {1, 1, 1}, {0, 2, 0}, {0, 3, 0, 2}, {2, 0, 1, 0, 4}, {0, 0, 0, 2, 0}, {3, 0, 3, 0, 3}, {8, 1, 0, 0, 5, 4}, {0, 0, 0, 0, 0, 0, 4, 2}} {
		each(5, func(table api.Table, homes []int) {
			for len(homes) < 7 { // so that there is one for each word, and one more
				homes = append(homes, -1)
			}
			inner, args := blocky(params, homes)
			outer, _ := blocky(params, homes)
			p := api.Program{Externs: []api.Sig{sigOf(inner), {}}}
			slices.Reverse(args)
			p.Externs[1].Params = slices.Clone(p.Externs[0].Params)
			slices.Reverse(p.Externs[1].Params)
			inOrder := slices.Clone(args)
			slices.Reverse(inOrder)
			block := []api.Ins{asked(1, args), sets(6, 99)}
			for slot, n := range inner.Slots {
				block = append(block, stores(6, slot, 8*(n-1), 8))
			}
			inner.Blocks = [][]api.Ins{append(block, asked(0, inOrder), gives())}
			outer.Blocks = [][]api.Ins{{called(1, inOrder), asked(0, inOrder), called(1, inOrder), gives()}}
			p.Funcs = []api.Func{outer, inner}
			var all, changed []uint64
			turned := []uint64{}
			for _, n := range params {
				var own []uint64
				for range max(1, n) {
					own = append(own, uint64(500+len(all)+len(own)))
				}
				all = append(all, own...)
				turned = append(slices.Clone(own), turned...)
				if n > 0 {
					own[n-1] = 99
				}
				changed = append(changed, own...)
			}
			twice := []api.Event{{F: 1, Words: turned}, {F: 0, Words: changed}, {F: 0, Words: all}, {F: 1, Words: turned}, {F: 0, Words: changed}}
			isLowered(t, "blocks", table, p, all, nil, with(given(), twice...))
		})
	}
}

// One slot as two arguments: two copies, of which one is written over.
func TestP13TwoCopies(t *testing.T) {
	for n := 1; n <= 8; n++ {
		each(3, func(table api.Table, homes []int) {
			twice := []api.Arg{{Words: n, From: 0}, {Words: n, From: 0}}
			inner := api.Func{Params: []api.Param{{Words: n, To: 1}, {Words: n, To: 0}}, Results: 2, Homes: homes, Slots: []int{n, n}, Blocks: [][]api.Ins{{
				sets(0, 5), stores(0, 1, 8*n-8, 8), loads(1, 0, 8*n-8, 8), loads(2, 1, 8*n-8, 8), gives(1, 2),
			}}}
			outer := api.Func{Params: []api.Param{{Words: n, To: 0}}, Results: 3, Homes: homes, Slots: []int{n}, Blocks: [][]api.Ins{{called(1, twice, 0, 1), loads(2, 0, 8*n-8, 8), gives(0, 1, 2)}}}
			args := make([]uint64, n)
			args[n-1] = 70
			isLowered(t, "two copies", table, api.Program{Funcs: []api.Func{outer, inner}}, args, nil, given(70, 5, 70))
		})
	}
}

// Results from outside and from a function, in registers and in cells, ahead of which there are cells of arguments or none.
func TestP13Results(t *testing.T) {
	for results := range 5 {
		for _, n := range []int{0, 1, 5, 8} {
			each(8, func(table api.Table, homes []int) {
				outs := rotated(8, 3)[:results]
				args := local(upward(0, n)...)
				p := api.Program{Externs: []api.Sig{sig(results, make([]int, n)...)}, Funcs: []api.Func{
					{Results: 4, Homes: homes, Blocks: [][]api.Ins{{asked(0, args, outs...), called(1, args, rotated(8, 2)[:results]...), gives(3, 4, 5, 6)}}},
					{Params: words(n), Results: results, Homes: homes, Blocks: [][]api.Ins{{asked(0, args, turnedLocals(8)[:results]...), gives(turnedLocals(8)[:results]...)}}},
				}}
				script := []uint64{11, 12, 13, 14, 15, 16, 17, 18}
				has := make([]uint64, 8)
				zeros := make([]uint64, n)
				copy(has[3:], script[:results])
				told := slices.Clone(has[:n])
				copy(has[2:], script[results:2*results])
				want := with(given(has[3:7]...), api.Event{Words: zeros}, api.Event{Words: told})
				isLowered(t, "results", table, p, nil, script, want)
			})
		}
	}
}

// What a call must keep: all locals of the caller, wherever they are, and all that is above the area, while the function that is called, and somebody outside, write over all that they may.
func TestP13Kept(t *testing.T) {
	each(9, func(table api.Table, homes []int) {
		var inner, outer []api.Ins
		for k := range 9 {
			inner, outer = append(inner, sets(k, uint64(900+k))), append(outer, sets(k, uint64(50+k)))
		}
		inner = append(inner, stores(8, 0, 16, 8), asked(0, local(3, 4)), gives())
		outer = append(outer, stores(7, 0, 8, 8), called(1, local(1, 2)), asked(0, local(0, 8)), called(2, local(3, 4)), loads(0, 0, 8, 8), goes(1))
		slots := []int{3}
		p := api.Program{Externs: []api.Sig{sig(0, 0, 0), sig(0, make([]int, 8)...)}, Funcs: []api.Func{
			{Homes: homes, Slots: slots, Blocks: [][]api.Ins{outer, {asked(1, local(0, 1, 2, 3, 4, 5, 6, 7)), called(1, local(0, 0)), asked(1, local(8, 7, 6, 5, 4, 3, 2, 1)), gives()}}},
			{Params: words(2), Homes: homes, Slots: slots, Blocks: [][]api.Ins{inner}},
			{Params: words(2), Homes: homes, Slots: slots, Blocks: [][]api.Ins{{called(1, local(0, 1)), called(1, local(1, 0)), asked(0, local(0, 1)), tailed(1, local(0, 1)...)}}},
		}}
		within := api.Event{Words: []uint64{903, 904}}
		want := with(given(), within, api.Event{Words: []uint64{50, 58}}, within, within, api.Event{Words: []uint64{53, 54}}, within,
			api.Event{F: 1, Words: []uint64{57, 51, 52, 53, 54, 55, 56, 57}}, within, api.Event{F: 1, Words: []uint64{58, 57, 56, 55, 54, 53, 52, 51}})
		isLowered(t, "what a call keeps", table, p, nil, nil, want)
	})
}

// A function that calls itself, deeper and deeper: where the stack is full before the end, the outcome is Full, and never a fault.
func TestP13Recursion(t *testing.T) {
	each(3, func(table api.Table, homes []int) {
		p := api.Program{Externs: []api.Sig{sig(0, 0)}, Funcs: []api.Func{{Params: words(1), Results: 1, Homes: homes, Blocks: [][]api.Ins{
			{asked(0, local(0)), forks(0, 1, 2)},
			{sets(1, 1), makes(api.Sub, 2, 0, 1), called(0, local(2), 1), makes(api.Mul, 0, 0, 1), gives(0)},
			{sets(0, 1), gives(0)},
		}}}}
		want := given(3628800)
		for n := range uint64(11) {
			want.Trace = append(want.Trace, api.Event{Words: []uint64{10 - n}})
		}
		c := isLowered(t, "a factorial", table, p, []uint64{10}, nil, want)
		o, err := prologue.Execute(table, c, 0, []uint64{1 << 40}, nil, api.MaxStack, api.MaxSteps)
		if err != nil || o.Kind != api.Full {
			t.Errorf("deeper than there is stack: %+v, %v", o.Kind, err)
		}
	})
}
