package prologue_test

import (
	"encoding/binary"
	"math"
	"reflect"
	"slices"
	"testing"

	"prologue/api"
	"prologue/plain"
	"prologue/prologue"
)

// sameOutcome takes a list without anything in it as the same, be it nil or not.
func sameOutcome(a, b api.Outcome) bool {
	return a.Kind == b.Kind && slices.Equal(a.Values, b.Values) && a.Code == b.Code && a.Steps == b.Steps && a.Peak == b.Peak &&
		slices.EqualFunc(a.Trace, b.Trace, func(x, y api.Event) bool { return x.F == y.F && slices.Equal(x.Words, y.Words) })
}

func isRun(t *testing.T, name string, p api.Program, f int, args, script []uint64, fuel int, want api.Outcome) {
	t.Helper()
	for _, table := range []api.Table{tableT(), tableU()} {
		if o, err := prologue.Interpret(table, p, f, args, script, fuel); err != nil || !sameOutcome(o, want) {
			t.Errorf("%s: Interpret = %+v, %v, want %+v", name, o, err, want)
		}
	}
}

func done(steps int, values ...uint64) api.Outcome {
	return api.Outcome{Kind: api.Done, Values: values, Steps: steps}
}

// adder: the document's function of two words.
func adder() api.Program {
	return api.Program{Funcs: []api.Func{{Params: []api.Param{{To: 0}, {To: 1}}, Results: 1, Homes: []int{5, -1}, Blocks: [][]api.Ins{
		{{Op: api.Add, D: 1, A: 0, B: 1}, {Op: api.Return, Outs: []int{1}}},
	}}}}
}

func TestP8Example(t *testing.T) {
	isRun(t, "the document's", adder(), 0, []uint64{40, 2}, nil, 2, done(2, 42))
	isRun(t, "a function that does nothing", small(), 0, nil, nil, 1, done(1))
}

func TestP8Operations(t *testing.T) {
	const most = math.MaxUint64
	for _, x := range []struct {
		op         int
		a, b, want uint64
	}{
		{api.Add, 1, 2, 3}, {api.Add, most, 1, 0}, {api.Add, 1 << 63, 1 << 63, 0},
		{api.Sub, 5, 3, 2}, {api.Sub, 3, 5, most - 1}, {api.Sub, 0, 1, most},
		{api.Mul, 6, 7, 42}, {api.Mul, 1 << 32, 1 << 32, 0}, {api.Mul, most, most, 1}, {api.Mul, most, 2, most - 1},
		{api.And, 0xFF00FF, 0xF0F0F0, 0xF000F0}, {api.And, most, 0, 0},
		{api.Xor, 0xFF00FF, 0xF0F0F0, 0x0FF00F}, {api.Xor, most, most, 0},
		{api.Less, 1, 2, 1}, {api.Less, 2, 1, 0}, {api.Less, 2, 2, 0}, {api.Less, 1, most, 1}, {api.Less, most, 1, 0}, {api.Less, 1<<63 - 1, 1 << 63, 1}, {api.Less, 1 << 63, 0, 0},
		{api.Same, 2, 2, 1}, {api.Same, 2, 3, 0}, {api.Same, most, most, 1}, {api.Same, 1, 1<<32 + 1, 0},
	} {
		p := adder()
		p.Funcs[0].Blocks[0][0].Op = x.op
		isRun(t, "an operation", p, 0, []uint64{x.a, x.b}, nil, 9, done(2, x.want))
		// what is read may be what is set
		p.Funcs[0].Blocks[0] = []api.Ins{{Op: x.op, D: 0, A: 0, B: 1}, {Op: api.Copy, D: 1, A: 0}, {Op: api.Return, Outs: []int{1}}}
		isRun(t, "an operation into its first", p, 0, []uint64{x.a, x.b}, nil, 9, done(3, x.want))
	}
	p := adder()
	p.Funcs[0].Blocks[0][0] = api.Ins{Op: api.Const, D: 1, N: most - 7}
	isRun(t, "Const", p, 0, []uint64{1, 2}, nil, 9, done(2, most-7))
}

// Each width at each place of a slot, by the bytes that should be there.
func TestP8Slots(t *testing.T) {
	const word, behind = 0x8899AABBCCDDEEFF, 0x1122334455667788
	for _, width := range []int{1, 2, 4, 8} {
		for at := 0; at < 16; at += width {
			bytes := make([]byte, 24)
			for k := range 3 {
				binary.LittleEndian.PutUint64(bytes[8*k:], behind+uint64(k))
			}
			before := loadBytes(bytes, at, width)
			stored := slices.Clone(bytes)
			for k := range width {
				stored[at+k] = byte(uint64(word) >> (8 * k))
			}
			p := api.Program{Funcs: []api.Func{{Params: []api.Param{{Words: 3, To: 1}, {To: 0}}, Results: 4, Homes: []int{-1, 0, 1, 2, 3}, Slots: []int{1, 3}, Blocks: [][]api.Ins{{
				{Op: api.Load, D: 1, A: 1, B: at, N: uint64(width)},
				{Op: api.Store, D: 0, A: 1, B: at, N: uint64(width)},
				{Op: api.Load, D: 2, A: 1, B: 0, N: 8}, {Op: api.Load, D: 3, A: 1, B: 8, N: 8}, {Op: api.Load, D: 4, A: 0, B: 0, N: 8},
				{Op: api.Return, Outs: []int{1, 2, 3, 4}},
			}}}}}
			isRun(t, "a slot", p, 0, []uint64{behind, behind + 1, behind + 2, word}, nil, 9,
				done(6, before, loadBytes(stored, 0, 8), loadBytes(stored, 8, 8), 0))
		}
	}
}

// steps: a program that ends in 5 * n + 3 + more steps, n being its argument: the sum of 1 to n.
func steps(more int) api.Program {
	p := api.Program{Funcs: []api.Func{{Params: []api.Param{{To: 2}}, Results: 1, Homes: []int{0, 1, -1}, Blocks: [][]api.Ins{
		{},
		{{Op: api.If, D: 2, A: 2, B: 3}},
		{{Op: api.Add, D: 1, A: 1, B: 2}, {Op: api.Const, D: 0, N: 1}, {Op: api.Sub, D: 2, A: 2, B: 0}, {Op: api.Goto, A: 1}},
		{{Op: api.Return, Outs: []int{1}}},
	}}}}
	for range more {
		p.Funcs[0].Blocks[0] = append(p.Funcs[0].Blocks[0], api.Ins{Op: api.Copy, D: 0, A: 2})
	}
	p.Funcs[0].Blocks[0] = append(p.Funcs[0].Blocks[0], api.Ins{Op: api.Goto, A: 1})
	return p
}

func TestP8Fuel(t *testing.T) {
	for fuel := range 60 {
		want := done(53, 55)
		if fuel < 53 {
			want = api.Outcome{Kind: api.Spent, Steps: fuel}
		}
		isRun(t, "a sum", steps(0), 0, []uint64{10}, nil, fuel, want)
	}
	const n = 3999 // 5 * n + 3 + 2 is MaxFuel
	isRun(t, "as many steps as there may be", steps(2), 0, []uint64{n}, nil, api.MaxFuel, done(api.MaxFuel, n*(n+1)/2))
	isRun(t, "one too few", steps(2), 0, []uint64{n}, nil, api.MaxFuel-1, api.Outcome{Kind: api.Spent, Steps: api.MaxFuel - 1})
	isRun(t, "one too many", steps(3), 0, []uint64{n}, nil, api.MaxFuel, api.Outcome{Kind: api.Spent, Steps: api.MaxFuel})
	isRun(t, "no fuel", small(), 0, nil, nil, 0, api.Outcome{Kind: api.Spent})
	isRun(t, "no fuel for a trap", alone(api.Ins{Op: api.Trap, N: 5}), 0, nil, nil, 0, api.Outcome{Kind: api.Spent})
	isRun(t, "a trap", alone(api.Ins{Op: api.Trap, N: 5}), 0, nil, nil, 1, api.Outcome{Kind: api.Trapped, Values: []uint64{5}, Steps: 1})
	for _, i := range []api.Ins{{Op: api.Goto}, {Op: api.Tail}} {
		isRun(t, "without an end", alone(i), 0, nil, nil, api.MaxFuel, api.Outcome{Kind: api.Spent, Steps: api.MaxFuel})
	}
	p := small()
	p.Funcs[0].Blocks[0] = []api.Ins{{Op: api.Call}, {Op: api.Return}}
	isRun(t, "deeper and deeper", p, 0, nil, nil, api.MaxFuel, api.Outcome{Kind: api.Spent, Steps: api.MaxFuel})
}

func isRefused(t *testing.T, name string, table api.Table, p api.Program, f int, args []uint64, fuel int, want plain.Fault) {
	t.Helper()
	if o, got := plain.Interpret(table, p, f, args, nil, fuel); got != want || !sameOutcome(o, api.Outcome{}) {
		t.Errorf("%s: Interpret = %+v, %+v, want %+v", name, o, got, want)
	}
}

func TestP8Errors(t *testing.T) {
	badArg := plain.Fault{E: int(api.ErrArg), Func: -1, Block: -1, At: -1}
	words := []uint64{1, 2, 3, 4, 5, 6, 7}
	p := busy() // its function 0 has 1 + 2 + 1 + 1 words, its function 1 has 2 + 1
	for _, f := range []int{-1, 2, 3, math.MinInt, math.MaxInt} {
		isRefused(t, "no such function", tableT(), p, f, words[:5], 9, badArg)
	}
	for n := range len(words) {
		for f, need := range []int{5, 3} {
			if n != need {
				isRefused(t, "other words", tableT(), p, f, words[:n], 9, badArg)
			} else if _, err := prologue.Interpret(tableT(), p, f, words[:n], nil, 9); err != nil {
				t.Errorf("%d words for the function %d: %v", n, f, err)
			}
		}
	}
	isRefused(t, "very many words", tableT(), p, 0, make([]uint64, 1<<20), 9, badArg)
	isRefused(t, "words for a function without any", tableT(), small(), 0, words[:1], 9, badArg)
	for _, fuel := range []int{-1, api.MaxFuel + 1, math.MinInt, math.MaxInt} {
		isRefused(t, "fuel", tableT(), p, 0, words[:5], fuel, badArg)
	}
	bad := tableT()
	bad.Regs = 3
	isRefused(t, "the table first", bad, api.Program{}, -1, words, -1, plain.Fault{E: int(api.ErrTable), Func: -1, Block: -1, At: -1})
	isRefused(t, "then the program", tableT(), api.Program{}, -1, words, -1, badFunc(-1, -1, -1))
	p.Funcs[0].Blocks[2][0].Outs[1] = 5
	isRefused(t, "and its instructions", tableT(), p, -1, words, -1, badFunc(0, 2, 0))
	p.Funcs[1].Homes[0] = 11
	isRefused(t, "and homes", tableT(), p, 0, words[:5], 9, badFunc(1, -1, -1))
}

// Parameters of all kinds, in an order of their own; all else is 0 at first, each time.
func TestP8Parameters(t *testing.T) {
	inner := api.Func{
		Params: []api.Param{{Words: 2, To: 2}, {To: 3}, {Words: 1, To: 0}, {To: 1}}, Results: 4,
		Homes: []int{-1, 6, 2, -1, 3}, Slots: []int{1, 2, 2},
	}
	// what is 0 at first is added to what comes; then all is written over
	inner.Blocks = [][]api.Ins{{
		{Op: api.Load, D: 4, A: 2, B: 8, N: 8}, {Op: api.Add, D: 4, A: 4, B: 2}, {Op: api.Load, D: 0, A: 1, B: 8, N: 8}, {Op: api.Add, D: 4, A: 4, B: 0},
		{Op: api.Load, D: 0, A: 0, N: 8}, {Op: api.Const, D: 2, N: 99}, {Op: api.Store, D: 2, A: 1, B: 8, N: 8}, {Op: api.Store, D: 2, A: 0, N: 8}, {Op: api.Store, D: 2, A: 2, B: 8, N: 8},
		{Op: api.Return, Outs: []int{4, 3, 0, 1}},
	}}
	p := api.Program{Funcs: []api.Func{inner, {
		Params: []api.Param{{Words: 2, To: 0}, {Words: 1, To: 1}}, Results: 4, Homes: []int{0, 1, 2, 3}, Slots: []int{2, 1},
		Blocks: [][]api.Ins{{
			{Op: api.Const, D: 0, N: 7}, {Op: api.Const, D: 1, N: 8},
			{Op: api.Call, F: 0, Args: []api.Arg{{Words: 2}, {From: 0}, {Words: 1, From: 1}, {From: 1}}, Outs: []int{1, 2, 3, 0}},
			{Op: api.Call, F: 0, Args: []api.Arg{{Words: 2}, {From: 0}, {Words: 1, From: 1}, {From: 1}}, Outs: []int{3, 2, 1, 0}},
			{Op: api.Return, Outs: []int{0, 1, 2, 3}},
		}},
	}}}
	isRun(t, "from outside", p, 0, []uint64{10, 11, 12, 13, 14}, nil, 99, done(10, 11, 12, 13, 14))
	// the first call gives 21, 7, 13, 8 into 1, 2, 3, 0; the second one gives 21, 8, 13, 21 into 3, 2, 1, 0
	isRun(t, "from a caller, twice", p, 1, []uint64{20, 21, 13}, nil, 99, done(25, 21, 13, 8, 21))
}

// A block that is handed on is a copy: to a function, by a tail call, to somebody outside.
func TestP8Copies(t *testing.T) {
	p := api.Program{
		Externs: []api.Sig{{Params: []int{2, 0, 2}, Results: 1}},
		Funcs: []api.Func{
			{Params: []api.Param{{Words: 2, To: 0}, {Words: 2, To: 1}}, Results: 2, Homes: []int{-1, -1, -1}, Slots: []int{2, 2}, Blocks: [][]api.Ins{
				{
					{Op: api.Ext, Args: []api.Arg{{Words: 2, From: 1}, {From: 2}, {Words: 2, From: 0}}, Outs: []int{2}},
					{Op: api.Call, F: 1, Args: []api.Arg{{Words: 2, From: 0}, {Words: 2, From: 0}}, Outs: []int{0, 1}},
					{Op: api.Store, D: 0, A: 1, B: 0, N: 8},
					{Op: api.Ext, Args: []api.Arg{{Words: 2, From: 0}, {From: 0}, {Words: 2, From: 1}}, Outs: []int{2}},
					{Op: api.If, D: 2, A: 2, B: 1},
				},
				{{Op: api.Return, Outs: []int{1, 2}}},
				{{Op: api.Tail, F: 0, Args: []api.Arg{{Words: 2, From: 1}, {Words: 2, From: 0}}}},
			}},
			{Params: []api.Param{{Words: 2, To: 1}, {Words: 2, To: 0}}, Results: 2, Homes: []int{-1, -1}, Slots: []int{2, 2}, Blocks: [][]api.Ins{{
				{Op: api.Const, D: 0, N: 70}, {Op: api.Store, D: 0, A: 0, B: 8, N: 8}, {Op: api.Load, D: 1, A: 1, B: 8, N: 8},
				{Op: api.Return, Outs: []int{0, 1}},
			}}},
		},
	}
	want := api.Outcome{Kind: api.Done, Values: []uint64{4, 0}, Steps: 20, Trace: []api.Event{
		{F: 0, Words: []uint64{3, 4, 0, 1, 2}}, {F: 0, Words: []uint64{1, 2, 70, 70, 4}},
		{F: 0, Words: []uint64{1, 2, 0, 70, 4}}, {F: 0, Words: []uint64{70, 4, 70, 70, 2}},
	}}
	isRun(t, "copies", p, 0, []uint64{1, 2, 3, 4}, []uint64{5, 6}, 99, want)
}

// What comes from outside: the script, and 0 behind its end, be it within an answer.
func TestP8Script(t *testing.T) {
	p := api.Program{
		Externs: []api.Sig{{Results: 2}, {}, {Params: []int{0}, Results: 3}},
		Funcs: []api.Func{{Results: 4, Homes: []int{0, 1, 2, 3, 4}, Blocks: [][]api.Ins{{
			{Op: api.Const, D: 0, N: 9}, {Op: api.Const, D: 1, N: 9}, {Op: api.Const, D: 2, N: 9}, {Op: api.Const, D: 3, N: 9}, {Op: api.Const, D: 4, N: 9},
			{Op: api.Ext, F: 0, Outs: []int{3, 0}}, {Op: api.Ext, F: 1}, {Op: api.Ext, F: 2, Args: []api.Arg{{From: 0}}, Outs: []int{4, 1, 2}},
			{Op: api.Return, Outs: []int{0, 1, 2, 3}},
		}}}},
	}
	script := []uint64{21, 22, 23, 24, 25, 26, 27}
	for n := range len(script) + 1 {
		told := make([]uint64, 7)
		copy(told, script[:n])
		want := done(9, told[1], told[3], told[4], told[0])
		want.Trace = []api.Event{{F: 0}, {F: 1}, {F: 2, Words: []uint64{told[1]}}}
		isRun(t, "a script", p, 0, nil, script[:n], 9, want)
		for fuel := range 9 {
			spent := api.Outcome{Kind: api.Spent, Steps: fuel, Trace: want.Trace[:max(0, fuel-5)]}
			isRun(t, "a script, and too little fuel", p, 0, nil, script[:n], fuel, spent)
		}
	}
	p.Funcs[0].Blocks[0][8] = api.Ins{Op: api.Trap, N: math.MaxUint64}
	want := api.Outcome{Kind: api.Trapped, Values: []uint64{math.MaxUint64}, Steps: 9, Trace: []api.Event{{F: 0}, {F: 1}, {F: 2, Words: []uint64{0}}}}
	isRun(t, "and a trap", p, 0, nil, nil, 9, want)
}

// Tail calls: what is given comes to where the caller's would have come; its words may be turned about; a trap within ends all.
func TestP8Tails(t *testing.T) {
	p := api.Program{Funcs: []api.Func{
		{Params: []api.Param{{To: 0}, {To: 1}, {To: 2}}, Results: 2, Homes: []int{0, 1, 2, 3}, Blocks: [][]api.Ins{
			{{Op: api.If, D: 2, A: 1, B: 2}},
			{{Op: api.Const, D: 3, N: 1}, {Op: api.Sub, D: 2, A: 2, B: 3}, {Op: api.Tail, F: 0, Args: []api.Arg{{From: 1}, {From: 0}, {From: 2}}}},
			{{Op: api.Return, Outs: []int{0, 1}}},
		}},
		{Params: []api.Param{{To: 1}}, Results: 3, Homes: []int{-1, -1, -1}, Blocks: [][]api.Ins{{
			{Op: api.Const, D: 0, N: 5}, {Op: api.Call, F: 0, Args: []api.Arg{{From: 0}, {From: 2}, {From: 1}}, Outs: []int{2, 0}},
			{Op: api.Return, Outs: []int{0, 1, 2}},
		}}},
		{Params: []api.Param{{To: 0}}, Results: 3, Homes: []int{-1}, Blocks: [][]api.Ins{{{Op: api.Tail, F: 1, Args: []api.Arg{{}}}}}},
		{Homes: []int{4, 5, 6}, Blocks: [][]api.Ins{{{Op: api.Call, F: 4}, {Op: api.Return}}}},
		{Blocks: [][]api.Ins{{{Op: api.Tail, F: 5}}}},
		{Blocks: [][]api.Ins{{{Op: api.Trap, N: 77}}}},
	}}
	isRun(t, "turned about, an odd number of times", p, 0, []uint64{1, 2, 3}, nil, 99, done(14, 2, 1))
	isRun(t, "an even number of times", p, 0, []uint64{1, 2, 4}, nil, 99, done(18, 1, 2))
	isRun(t, "behind a call", p, 1, []uint64{3}, nil, 99, done(17, 5, 3, 0))
	isRun(t, "behind a tail call", p, 2, []uint64{4}, nil, 99, done(22, 0, 4, 5))
	isRun(t, "a trap behind both", p, 3, nil, nil, 99, api.Outcome{Kind: api.Trapped, Values: []uint64{77}, Steps: 3})
}

// slowly run: P8 once more, by calls within calls. What ends all is thrown.
type slowRun struct {
	p      api.Program
	script []uint64
	left   int
	o      api.Outcome
}

func slowInterpret(p api.Program, f int, args, script []uint64, fuel int) (o api.Outcome) {
	r := &slowRun{p: p, script: script, left: fuel}
	defer func() {
		recover()
		o = r.o
	}()
	r.o.Values = r.call(f, args)
	r.o.Kind = api.Done
	return r.o
}

func (r *slowRun) end(kind int, values ...uint64) {
	r.o.Kind, r.o.Values = kind, values
	panic("the end")
}

func (r *slowRun) call(f int, words []uint64) []uint64 {
	fn := r.p.Funcs[f]
	locals := map[int]uint64{}
	slots := map[int][]byte{}
	for k, n := range fn.Slots {
		slots[k] = make([]byte, 8*n)
	}
	at := 0
	for _, x := range fn.Params {
		if x.Words == 0 {
			locals[x.To] = words[at]
			at++
		}
		for k := range x.Words {
			binary.LittleEndian.PutUint64(slots[x.To][8*k:], words[at])
			at++
		}
	}
	read := func(args []api.Arg) []uint64 {
		var l []uint64
		for _, x := range args {
			if x.Words == 0 {
				l = append(l, locals[x.From])
			}
			for k := range x.Words {
				l = append(l, binary.LittleEndian.Uint64(slots[x.From][8*k:]))
			}
		}
		return l
	}
	for b := 0; ; {
		for _, i := range fn.Blocks[b] {
			if r.left == 0 {
				r.end(api.Spent)
			}
			r.left--
			r.o.Steps++
			x, y := locals[i.A], locals[i.B]
			switch i.Op {
			case api.Const:
				locals[i.D] = i.N
			case api.Copy:
				locals[i.D] = x
			case api.Add:
				locals[i.D] = x + y
			case api.Sub:
				locals[i.D] = x - y
			case api.Mul:
				locals[i.D] = x * y
			case api.And:
				locals[i.D] = x & y
			case api.Xor:
				locals[i.D] = x ^ y
			case api.Less, api.Same:
				locals[i.D] = 0
				if i.Op == api.Less && x < y || i.Op == api.Same && x == y {
					locals[i.D] = 1
				}
			case api.Load:
				locals[i.D] = loadBytes(slots[i.A], i.B, int(i.N))
			case api.Store:
				for k := range int(i.N) {
					slots[i.A][i.B+k] = byte(locals[i.D] >> (8 * k))
				}
			case api.Call:
				for k, v := range r.call(i.F, read(i.Args)) {
					locals[i.Outs[k]] = v
				}
			case api.Ext:
				r.o.Trace = append(r.o.Trace, api.Event{F: i.F, Words: read(i.Args)})
				for _, k := range i.Outs {
					locals[k] = 0
					if len(r.script) > 0 {
						locals[k], r.script = r.script[0], r.script[1:]
					}
				}
			case api.Goto:
				b = i.A
			case api.If:
				b = i.A
				if locals[i.D] == 0 {
					b = i.B
				}
			case api.Return:
				var l []uint64
				for _, k := range i.Outs {
					l = append(l, locals[k])
				}
				return l
			case api.Tail:
				return r.call(i.F, read(i.Args))
			case api.Trap:
				r.end(api.Trapped, i.N)
			}
		}
	}
}

func TestP8ManyPrograms(t *testing.T) {
	kinds, events := map[int]int{}, 0
	for seed := range int64(400) {
		table := []api.Table{tableT(), tableU(), few(), many()}[seed%4]
		p := copied(makeProgram(seed, table))
		m := newMaker(seed)
		for range 4 {
			f := m.Intn(len(p.Funcs))
			args := roomy(m.wordsFor(sigOf(p.Funcs[f])), 77)
			script := roomy(m.wordsFor(api.Sig{Params: []int{m.Intn(9), 0}}), 77)
			fuel := []int{m.Intn(40), 300}[m.Intn(2)]
			program, words, told := untouched(p), untouched(args), untouched(script)
			want := slowInterpret(p, f, args, script, fuel)
			o, err := prologue.Interpret(table, p, f, args, script, fuel)
			if err != nil || !sameOutcome(o, want) {
				t.Fatalf("seed %d: Interpret(%d, %v, %v, %d) = %+v, %v, want %+v", seed, f, args, script, fuel, o, err, want)
			}
			if !program() || !words() || !told() {
				t.Fatalf("seed %d: something that was handed in was written into", seed)
			}
			kinds[o.Kind]++
			events += len(o.Trace)
		}
	}
	if kinds[api.Done] < 100 || kinds[api.Trapped] < 100 || kinds[api.Spent] < 100 || events < 100 {
		t.Errorf("outcomes: %v, with %d events", kinds, events)
	}
}

// What the caller writes into an outcome, also into its spare room, is seen nowhere else (P2).
func TestP8OutcomesAreNew(t *testing.T) {
	p := api.Program{
		Externs: []api.Sig{{Params: []int{2, 0}, Results: 2}},
		Funcs: []api.Func{{Params: []api.Param{{Words: 2, To: 0}, {To: 0}}, Results: 2, Homes: []int{-1, -1}, Slots: []int{2}, Blocks: [][]api.Ins{{
			{Op: api.Ext, Args: []api.Arg{{Words: 2}, {}}, Outs: []int{0, 1}}, {Op: api.Ext, Args: []api.Arg{{Words: 2}, {From: 1}}, Outs: []int{0, 1}}, {Op: api.Return, Outs: []int{0, 1}},
		}}}},
	}
	args, script := []uint64{1, 2, 3}, []uint64{4, 5, 6, 7}
	want := done(3, 6, 7)
	want.Trace = []api.Event{{Words: []uint64{1, 2, 3}}, {Words: []uint64{1, 2, 5}}}
	o, _ := prologue.Interpret(tableT(), p, 0, args, script, 9)
	other, _ := prologue.Interpret(tableT(), p, 0, args, script, 9)
	lists := [][]uint64{o.Values[:cap(o.Values)], o.Trace[0].Words[:cap(o.Trace[0].Words)], o.Trace[1].Words[:cap(o.Trace[1].Words)]}
	for k, l := range lists {
		for n := range l {
			l[n] = uint64(1000 + k)
		}
	}
	for k, l := range lists {
		if slices.Min(l) != uint64(1000+k) || slices.Max(l) != uint64(1000+k) {
			t.Errorf("two lists share memory: %v", lists)
		}
	}
	if !sameOutcome(other, want) || !reflect.DeepEqual(args, []uint64{1, 2, 3}) || !reflect.DeepEqual(script, []uint64{4, 5, 6, 7}) {
		t.Errorf("behind it: %+v, %v, %v", other, args, script)
	}
	isRun(t, "once more", p, 0, args, script, 9, want)
}
