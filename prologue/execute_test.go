package prologue_test

import (
	"math"
	"reflect"
	"testing"

	"prologue/api"
	"prologue/prologue"
)

// The instructions of a machine, each with what it needs.
func li(r int, n int64) api.Move { return api.Move{Op: api.Li, R: r, N: n} }

func mov(r, a int) api.Move { return api.Move{Op: api.Mov, R: r, A: a} }

func reckon(op, r, a, b int) api.Move { return api.Move{Op: op, R: r, A: a, B: b} }

func ld(r int, n int64, w int) api.Move { return api.Move{Op: api.Ld, R: r, N: n, W: w} }

func st(r int, n int64, w int) api.Move { return api.Move{Op: api.St, R: r, N: n, W: w} }

func ldx(r, a int, n int64) api.Move { return api.Move{Op: api.Ldx, R: r, A: a, N: n} }

func lea(r int, n int64) api.Move { return api.Move{Op: api.Lea, R: r, N: n} }

func sp(n int64) api.Move { return api.Move{Op: api.Sp, N: n} }

func calls(f int) api.Move { return api.Move{Op: api.Calls, F: f} }

func exts(f int) api.Move { return api.Move{Op: api.Exts, F: f} }

func jump(a int) api.Move { return api.Move{Op: api.Jump, A: a} }

func fork(r, a, b int) api.Move { return api.Move{Op: api.Fork, R: r, A: a, B: b} }

func ret() api.Move { return api.Move{Op: api.Ret} }

func leap(f int) api.Move { return api.Move{Op: api.Leap, F: f} }

func stop(n int64) api.Move { return api.Move{Op: api.Stop, N: n} }

// body of a function that has but one block.
func body(moves ...api.Move) [][]api.Move { return [][]api.Move{moves} }

// coded: functions that all have the same signature.
func coded(s api.Sig, funcs ...[][]api.Move) api.Code {
	c := api.Code{Funcs: funcs}
	for range funcs {
		c.Sigs = append(c.Sigs, s)
	}
	return c
}

// start of a run: all that Execute is given but for the table and the code.
type start struct {
	f            int
	args, script []uint64
	stack, steps int
}

func isExecuted(t *testing.T, name string, table api.Table, c api.Code, s start, want api.Outcome) {
	t.Helper()
	o, err := prologue.Execute(table, c, s.f, s.args, s.script, s.stack, s.steps)
	if err != nil || !sameOutcome(o, want) {
		t.Errorf("%s: Execute = %+v, %v, want %+v", name, o, err, want)
	}
}

func doneAt(steps, peak int, values ...uint64) api.Outcome {
	return api.Outcome{Kind: api.Done, Values: values, Steps: steps, Peak: peak}
}

func trapped(steps, peak int, value uint64) api.Outcome {
	return api.Outcome{Kind: api.Trapped, Values: []uint64{value}, Steps: steps, Peak: peak}
}

func spent(steps, peak int) api.Outcome {
	return api.Outcome{Kind: api.Spent, Steps: steps, Peak: peak}
}

func full(steps, peak int) api.Outcome {
	return api.Outcome{Kind: api.Full, Steps: steps, Peak: peak}
}

func faulty(code, steps, peak int) api.Outcome {
	return api.Outcome{Kind: api.Fault, Code: code, Steps: steps, Peak: peak}
}

// with what was told from outside.
func with(o api.Outcome, trace ...api.Event) api.Outcome {
	o.Trace = trace
	return o
}

// aligned: table T or U with another Align and Shadow.
func aligned(t api.Table, align, shadow int) api.Table {
	t.Align, t.Shadow = align, shadow
	return t
}

// The document's function of two words, with a beginning that goes with its block.
func TestP12Example(t *testing.T) {
	c := coded(sig(1, 0, 0), [][]api.Move{
		{sp(-24), st(5, 16, 8), mov(5, 0), st(1, 8, 8), jump(1)},
		{ld(10, 8, 8), reckon(api.Add, 9, 5, 10), st(9, 8, 8), ld(0, 8, 8), ld(5, 16, 8), sp(24), ret()},
	})
	for _, stack := range []int{32, 64, 1024, api.MaxStack} {
		isExecuted(t, "the document's", tableT(), c, start{args: []uint64{40, 2}, stack: stack, steps: 12}, doneAt(12, 32, 42))
	}
	isExecuted(t, "one step too few", tableT(), c, start{args: []uint64{40, 2}, stack: 64, steps: 11}, spent(11, 32))
	isExecuted(t, "no stack", tableT(), c, start{args: []uint64{40, 2}, steps: 12}, full(0, 0))
}

func isNotExecuted(t *testing.T, name string, table api.Table, c api.Code, s start, want api.Errno) {
	t.Helper()
	o, err := prologue.Execute(table, c, s.f, s.args, s.script, s.stack, s.steps)
	if !placeless(err, want) || !reflect.DeepEqual(o, api.Outcome{}) {
		t.Errorf("%s: Execute = %+v, %v, want %v", name, o, err, want)
	}
}

func TestP12Errors(t *testing.T) {
	fineCode := func() api.Code {
		c := coded(sig(1, 0, 3), body(ret()), body(ret()))
		c.Externs = []api.Sig{sig(4), sig(0, 8)}
		return c
	}
	good := start{f: 1, args: []uint64{1, 2, 3, 4}, stack: 64, steps: 9}
	if _, err := prologue.Execute(tableT(), fineCode(), good.f, good.args, nil, good.stack, good.steps); err != nil {
		t.Fatal(err)
	}
	for _, f := range []int{-1, 2, 3, math.MinInt, math.MaxInt} {
		isNotExecuted(t, "no such function", tableT(), fineCode(), start{f, good.args, nil, 64, 9}, api.ErrArg)
	}
	isNotExecuted(t, "no function at all", tableT(), api.Code{}, start{stack: 64, steps: 9}, api.ErrArg)
	for _, n := range []int{0, 1, 3, 5, 8, 1 << 20} {
		isNotExecuted(t, "other words", tableT(), fineCode(), start{1, make([]uint64, n), nil, 64, 9}, api.ErrArg)
	}
	for _, stack := range []int{-1, -32, -64, 1, 8, 16, 24, 31, 33, 48, 63, api.MaxStack - 16, api.MaxStack + 1, api.MaxStack + 32, math.MinInt, math.MaxInt, math.MaxInt - 31} {
		isNotExecuted(t, "a stack", tableT(), fineCode(), start{1, good.args, nil, stack, 9}, api.ErrArg)
	}
	for _, steps := range []int{-1, -32, api.MaxSteps + 1, math.MinInt, math.MaxInt} {
		isNotExecuted(t, "steps", tableT(), fineCode(), start{1, good.args, nil, 64, steps}, api.ErrArg)
	}
	for name, change := range map[string]func(c *api.Code){
		"a signature too many":   func(c *api.Code) { c.Sigs = append(c.Sigs, sig(1, 0, 3)) },
		"a signature too few":    func(c *api.Code) { c.Funcs = append(c.Funcs, body(ret())) },
		"no signature":           func(c *api.Code) { c.Sigs = nil },
		"results of the other":   func(c *api.Code) { c.Sigs[0].Results = 5 },
		"results below 0":        func(c *api.Code) { c.Sigs[0].Results = -1 },
		"words of the other":     func(c *api.Code) { c.Sigs[0].Params = []int{9} },
		"words below 0":          func(c *api.Code) { c.Sigs[0].Params = []int{0, -1} },
		"nine parameters":        func(c *api.Code) { c.Sigs[0].Params = make([]int, 9) },
		"its own results":        func(c *api.Code) { c.Sigs[1].Results = 5 },
		"its own words":          func(c *api.Code) { c.Sigs[1].Params = []int{0, 3, -1} },
		"results from outside":   func(c *api.Code) { c.Externs[0].Results = 5 },
		"words from outside":     func(c *api.Code) { c.Externs[1].Params[0] = 9 },
		"words of the last one":  func(c *api.Code) { c.Externs[1].Params = []int{0, 0, math.MaxInt} },
		"parameters for outside": func(c *api.Code) { c.Externs[0].Params = make([]int, 9) },
	} {
		c := fineCode()
		change(&c)
		isNotExecuted(t, name, tableT(), c, good, api.ErrArg)
	}
	bad := tableT()
	bad.Saves = append(bad.Saves, 0)
	isNotExecuted(t, "a bad table", bad, fineCode(), good, api.ErrTable)
	isNotExecuted(t, "the table first", bad, api.Code{Sigs: []api.Sig{sig(9)}}, start{-1, good.args, nil, 33, -1}, api.ErrTable)
	isNotExecuted(t, "no table", api.Table{}, fineCode(), good, api.ErrTable)
}

// The edges of stack and steps that may be.
func TestP12Edges(t *testing.T) {
	c := coded(sig(0), body(ret()), body(jump(0)))
	for stack := 32; stack <= api.MaxStack; stack += 32 {
		isExecuted(t, "pushed", tableT(), c, start{stack: stack, steps: 1}, doneAt(1, 8))
	}
	for stack := 0; stack <= 256; stack += 32 {
		isExecuted(t, "with Link", aligned(tableU(), 16, 0), c, start{stack: stack, steps: 1}, doneAt(1, 0))
	}
	isExecuted(t, "no stack to push onto", tableT(), c, start{steps: 1}, full(0, 0))
	isExecuted(t, "and no steps", tableT(), c, start{}, full(0, 0))
	isExecuted(t, "no stack for the shadow", tableU(), c, start{steps: 1}, full(0, 0))
	isExecuted(t, "no steps", tableT(), c, start{stack: 32}, spent(0, 8))
	isExecuted(t, "no steps, with Link", tableU(), c, start{stack: 32}, spent(0, 16))
	for _, table := range []api.Table{tableT(), tableU()} {
		peak := 8 + 8*(table.Shadow/16)
		isExecuted(t, "as many steps as there may be", table, c, start{f: 1, stack: 32, steps: api.MaxSteps}, spent(api.MaxSteps, peak))
	}
	// a loop of three steps each time: 3 * n + 4 steps in all
	count := coded(sig(0, 0), [][]api.Move{{li(1, 1), jump(1)}, {fork(0, 2, 3)}, {reckon(api.Sub, 0, 0, 1), jump(1)}, {ret()}})
	n := (api.MaxSteps - 4) / 3
	isExecuted(t, "an end at the last step", tableT(), count, start{args: []uint64{uint64(n)}, stack: 32, steps: 3*n + 4}, doneAt(3*n+4, 8))
	isExecuted(t, "an end just behind it", tableT(), count, start{args: []uint64{uint64(n)}, stack: 32, steps: 3*n + 3}, spent(3*n+3, 8))
}

// What the registers have at first: each one by itself, but those that the call sets.
func TestP12FirstRegisters(t *testing.T) {
	m := newMaker(12)
	for k := range 200 {
		table := []api.Table{tableT(), tableU(), few(), many()}[k%4]
		if k >= 4 {
			table = makeTable(m)
		}
		if len(table.Results) == 0 {
			continue
		}
		for r := range table.Regs {
			o, err := prologue.Execute(table, coded(sig(1), body(mov(table.Results[0], r), ret())), 0, nil, nil, 96, 9)
			want := uint64(7000 + r)
			switch r {
			case table.Link:
				want = 0
			case table.SP:
				want = uint64(first(table, 96))
			}
			if err != nil || o.Kind != api.Done || o.Values[0] != want {
				t.Errorf("register %d by %+v: %+v, %v, want %d", r, table, o, err, want)
			}
		}
	}
}

func up(n, unit int) int {
	for n%unit != 0 {
		n++
	}
	return n
}

// What the stack has at first, byte by byte; the return address alone stands there already.
func TestP12FirstBytes(t *testing.T) {
	for _, stack := range []int{32, 64, 1024, api.MaxStack} {
		for _, table := range []api.Table{tableT(), tableU()} {
			for at := 0; at < stack; at += max(1, stack/512) {
				c := coded(sig(1), body(ld(0, int64(at-first(table, stack)), 1), ret()))
				o, _ := prologue.Execute(table, c, 0, nil, nil, stack, 9)
				want := uint64(byte(7*at + 3))
				if table.Link == -1 && at >= stack-8 {
					want = 0
				}
				if o.Kind != api.Done || o.Values[0] != want {
					t.Fatalf("stack %d, byte %d: %+v, want %d", stack, at, o, want)
				}
			}
		}
	}
}

// first: where SP is when a function without anything begins.
func first(t api.Table, stack int) int {
	return stack - up(t.Shadow, t.Align) - pushedBytes(t)
}

// fourResults: a signature whose last result is a cell, by a table that is made so, and what its caller takes of the stack.
func fourResults(m *maker, k int) (api.Table, api.Sig, api.Layout, int) {
	table := []api.Table{tableT(), tableU()}[k%2]
	if k >= 100 {
		table = makeTable(m)
		table.Results = pick(m, table.Results, 3)
	}
	s := m.sig()
	s.Results = 4
	l := slowClassify(table, s)
	return table, s, l, up(l.Size+l.Copies, table.Align)
}

// pushedBytes: how far below the caller's SP a function finds its own.
func pushedBytes(t api.Table) int {
	if t.Link == -1 {
		return 8
	}
	return 0
}

// fetched: what stands in a place of the caller's layout comes into Temps[0].
func fetched(t api.Table, p api.Place) api.Move {
	if p.Reg == -1 {
		return ld(t.Temps[0], int64(pushedBytes(t)+p.At), 8)
	}
	return mov(t.Temps[0], p.Reg)
}

// Arguments of all kinds, as the caller lays them: each word by itself, and the addresses of copies.
func TestP12Arguments(t *testing.T) {
	m := newMaker(13)
	for k := range 400 {
		table, s, l, room := fourResults(m, k)
		args := m.wordsFor(s)
		stack := up(room+8, 32) + 32*m.Intn(3)
		temp := table.Temps[0]
		isFound := func(want uint64, moves ...api.Move) {
			moves = append(moves, st(temp, int64(pushedBytes(table)+l.Results[3].At), 8), ret())
			o, err := prologue.Execute(table, coded(s, body(moves...)), 0, args, nil, stack, len(moves))
			if err != nil || o.Kind != api.Done || o.Values[3] != want || o.Peak != room+pushedBytes(table) || o.Steps != len(moves) {
				t.Fatalf("%v of %v with %v by %+v: %+v, %v, want %d", moves, s, args, table, o, err, want)
			}
		}
		words := args
		for n, x := range l.Args {
			for w := range max(1, s.Params[n]) {
				if x.Ref {
					isFound(words[w], fetched(table, x.Places[0]), ldx(temp, temp, int64(8*w)))
				} else {
					isFound(words[w], fetched(table, x.Places[w]))
				}
			}
			if x.Ref {
				isFound(uint64(stack-room+l.Size+x.At), fetched(table, x.Places[0]))
			}
			words = words[max(1, s.Params[n]):]
		}
	}
}

// Results, in registers and cells, wherever the arguments were.
func TestP12Results(t *testing.T) {
	m := newMaker(14)
	for k := range 400 {
		table, s, l, room := fourResults(m, k)
		var moves []api.Move
		want := make([]uint64, 4)
		for n, p := range l.Results {
			want[n] = m.number()
			moves = append(moves, li(table.Temps[0], int64(want[n])))
			if p.Reg == -1 {
				moves = append(moves, st(table.Temps[0], int64(pushedBytes(table)+p.At), 8))
			} else {
				moves = append(moves, mov(p.Reg, table.Temps[0]))
			}
		}
		moves = append(moves, ret())
		isExecuted(t, "results", table, coded(s, body(moves...)), start{args: m.wordsFor(s), stack: up(room+8, 32), steps: 9}, doneAt(9, room+pushedBytes(table), want...))
	}
}

// The caller's area and copies: they are rounded up; a stack that is too small for them is full.
func TestP12Room(t *testing.T) {
	for _, x := range []struct {
		name  string
		table api.Table
		s     api.Sig
		room  int
	}{
		{"nothing", tableT(), sig(0), 0},
		{"a cell", tableT(), sig(3), 16},
		{"a cell, by 8", aligned(tableT(), 8, 0), sig(3), 8},
		{"a cell, by 32", aligned(tableT(), 32, 0), sig(3), 32},
		{"two cells", tableT(), sig(4), 16},
		{"three cells", tableT(), sig(4, 0, 0, 0, 0, 0), 32},
		{"a copy", tableT(), sig(0, 3), 32},
		{"a copy and a cell", tableT(), sig(3, 3), 32},
		{"a copy and two cells", tableT(), sig(4, 3), 48},
		{"all that there may be", tableT(), sig(4, 8, 8, 8, 8, 8, 8, 8, 8), 560},
		{"the shadow", tableU(), sig(0), 16},
		{"a part of the shadow", aligned(tableU(), 16, 24), sig(0), 32},
		{"the shadow by 8", aligned(tableU(), 8, 24), sig(0), 24},
		{"the shadow and a cell", tableU(), sig(3), 32},
		{"the shadow, a cell and a copy", tableU(), sig(3, 8), 96},
	} {
		args := make([]uint64, 0, 64)
		for _, words := range x.s.Params {
			args = args[:len(args)+max(1, words)]
		}
		c := coded(x.s, body(stop(5)))
		for stack := 0; stack <= 640; stack += 32 {
			want := trapped(1, x.room+pushedBytes(x.table), 5)
			switch {
			case stack < x.room:
				want = full(0, 0)
			case stack == x.room && pushedBytes(x.table) > 0:
				want = full(0, x.room)
			}
			isExecuted(t, x.name, x.table, c, start{args: args, stack: stack, steps: 3}, want)
		}
	}
}
