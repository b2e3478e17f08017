package prologue_test

import (
	"math"
	"slices"
	"testing"

	"prologue/api"
	"prologue/plain"
	"prologue/prologue"
)

// busy: a program that may be, by both tables, with each instruction. Its function 0 has the locals 0 to 4 and slots of 2, 1 and 2 words.
func busy() api.Program {
	return api.Program{
		Externs: []api.Sig{{Params: []int{2, 0}, Results: 2}, {}},
		Funcs: []api.Func{
			{Params: []api.Param{{To: 3}, {Words: 2, To: 2}, {To: 1}, {Words: 1, To: 1}}, Results: 2, Homes: []int{5, -1, 0, -1, 4}, Slots: []int{2, 1, 2}, Blocks: [][]api.Ins{
				{{Op: api.Const, D: 4, N: 1 << 40}, {Op: api.Copy, D: 0, A: 4}, {Op: api.Add, D: 1, A: 2, B: 3}, {Op: api.Same, D: 4, A: 4, B: 0}, {Op: api.Load, D: 1, A: 2, B: 8, N: 8}, {Op: api.Store, D: 2, A: 1, B: 6, N: 2}, {Op: api.If, D: 4, A: 1, B: 3}},
				{{Op: api.Call, F: 1, Args: []api.Arg{{Words: 2, From: 2}, {From: 4}}, Outs: []int{3, 0}}, {Op: api.Ext, F: 0, Args: []api.Arg{{Words: 2, From: 0}, {From: 1}}, Outs: []int{0, 4}}, {Op: api.Ext, F: 1}, {Op: api.Goto, A: 2}},
				{{Op: api.Return, Outs: []int{3, 3}}},
				{{Op: api.Tail, F: 1, Args: []api.Arg{{Words: 2, From: 0}, {From: 0}}}},
			}},
			{Params: []api.Param{{Words: 2, To: 0}, {To: 0}}, Results: 2, Homes: []int{-1}, Slots: []int{2}, Blocks: [][]api.Ins{
				{{Op: api.Mul, D: 0}, {Op: api.Trap, N: 9}},
			}},
		},
	}
}

func isChecked(t *testing.T, name string, table api.Table, p api.Program, want plain.Fault) {
	t.Helper()
	if f := plain.CheckProgram(table, p); f != want {
		t.Errorf("%s: CheckProgram = %+v, want %+v", name, f, want)
	}
	err := prologue.CheckProgram(table, p)
	if want.Func == -1 && want.E != 0 && !placeless(err, api.Errno(want.E)) {
		t.Errorf("%s: an error without a place is %#v", name, err)
	}
}

var fine = plain.Fault{Func: -1, Block: -1, At: -1}

func badFunc(f, block, at int) plain.Fault {
	return plain.Fault{E: int(api.ErrFunc), Func: f, Block: block, At: at}
}

// alter: something that is done to a program.
type alter struct {
	name string
	make func(p *api.Program)
}

func allChecked(t *testing.T, want plain.Fault, all []alter) {
	t.Helper()
	for _, table := range []api.Table{tableT(), tableU()} {
		for _, x := range all {
			p := busy()
			x.make(&p)
			isChecked(t, x.name, table, p, want)
		}
	}
}

func TestP7Fine(t *testing.T) {
	allChecked(t, fine, []alter{
		{"as it is", func(p *api.Program) {}},
		{"lists of nothing", func(p *api.Program) {
			p.Funcs[1].Blocks[0][0].Args, p.Funcs[1].Blocks[0][0].Outs = []api.Arg{}, []int{}
		}},
		{"no externs", func(p *api.Program) { p.Externs, p.Funcs[0].Blocks[1] = nil, p.Funcs[0].Blocks[2] }},
		{"a function that calls itself", func(p *api.Program) {
			p.Funcs[1].Blocks[0][1] = api.Ins{Op: api.Tail, F: 1, Args: []api.Arg{{Words: 2}, {}}}
		}},
		{"a block that goes on with itself", func(p *api.Program) { p.Funcs[0].Blocks[2][0] = api.Ins{Op: api.Goto, A: 2} }},
		{"a local and a slot of one number", func(p *api.Program) { p.Funcs[0].Params[0].To = 2 }},
		{"all homes in cells", func(p *api.Program) { p.Funcs[0].Homes = []int{-1, -1, -1, -1, -1} }},
		{"homes that are kept", func(p *api.Program) { p.Funcs[0].Homes = []int{6, 7, 2, 1, 3} }},
		{"a word's slot read at its end, a byte", func(p *api.Program) { p.Funcs[0].Blocks[0][4] = api.Ins{Op: api.Load, D: 1, A: 1, B: 7, N: 1} }},
		{"an instruction that sets what it reads", func(p *api.Program) { p.Funcs[0].Blocks[0][2] = api.Ins{Op: api.Less, D: 4, A: 4, B: 4} }},
		{"a slot handed on twice", func(p *api.Program) {
			p.Externs[0] = api.Sig{Params: []int{2, 2}, Results: 2}
			p.Funcs[0].Blocks[1][1].Args = []api.Arg{{Words: 2}, {Words: 2}}
		}},
	})
}

// Which error comes first.
func TestP7Order(t *testing.T) {
	bad := tableT()
	bad.Align = 9
	worst := busy()
	worst.Funcs[0].Blocks[0][0].Op = 99
	isChecked(t, "a bad table and a bad instruction", bad, worst, plain.Fault{E: int(api.ErrTable), Func: -1, Block: -1, At: -1})
	isChecked(t, "a bad table and nothing", bad, api.Program{}, plain.Fault{E: int(api.ErrTable), Func: -1, Block: -1, At: -1})
	worst.Funcs[1].Blocks[0][0].Op = 99
	isChecked(t, "the first function", tableT(), worst, badFunc(0, 0, 0))
	worst.Funcs[1].Results = 5
	isChecked(t, "the head of the second one first", tableT(), worst, badFunc(1, -1, -1))
	worst.Funcs[0].Slots[0] = 9
	isChecked(t, "that of the first one first", tableT(), worst, badFunc(0, -1, -1))
	worst.Externs[1].Results = 5
	isChecked(t, "externs first", tableT(), worst, badFunc(-1, -1, -1))
	allChecked(t, badFunc(0, 1, 1), []alter{{"the first place in a block, the first block", func(p *api.Program) {
		p.Funcs[1].Blocks[0][0].D = 1
		p.Funcs[0].Blocks[3][0].F = 2
		p.Funcs[0].Blocks[1][3].A = 4
		p.Funcs[0].Blocks[1][1].F = 2
	}}})
}

func TestP7WithoutPlace(t *testing.T) {
	allChecked(t, badFunc(-1, -1, -1), []alter{
		{"no functions", func(p *api.Program) { p.Funcs = nil }},
		{"nine functions", func(p *api.Program) { p.Funcs = slices.Repeat(p.Funcs[1:], 9) }},
		{"very many functions", func(p *api.Program) { p.Funcs = make([]api.Func, 1<<20) }},
		{"five externs", func(p *api.Program) { p.Externs = append(p.Externs, api.Sig{}, api.Sig{}, api.Sig{}) }},
		{"results of an extern below 0", func(p *api.Program) { p.Externs[1].Results = -1 }},
		{"five results of an extern", func(p *api.Program) { p.Externs[0].Results = 5 }},
		{"nine parameters of an extern", func(p *api.Program) { p.Externs[1].Params = make([]int, 9) }},
		{"nine words of one", func(p *api.Program) { p.Externs[0].Params[1] = 9 }},
		{"-1 words of one", func(p *api.Program) { p.Externs[0].Params[0] = -1 }},
		{"very many words of one", func(p *api.Program) { p.Externs[0].Params[1] = math.MaxInt }},
	})
	allChecked(t, fine, []alter{
		{"eight functions", func(p *api.Program) {
			for len(p.Funcs) < 8 {
				p.Funcs = append(p.Funcs, p.Funcs[1])
			}
		}},
		{"four externs", func(p *api.Program) {
			p.Externs = append(p.Externs, api.Sig{Params: make([]int, 8), Results: 4}, api.Sig{Params: []int{8}})
		}},
	})
}

func TestP7Heads(t *testing.T) {
	allChecked(t, badFunc(0, -1, -1), []alter{
		{"nine parameters", func(p *api.Program) {
			f := &p.Funcs[0]
			f.Homes, f.Params = slices.Repeat([]int{-1}, 12), nil
			for k := range 9 {
				f.Params = append(f.Params, api.Param{To: k})
			}
		}},
		{"nine words", func(p *api.Program) { p.Funcs[0].Params[1].Words = 9 }},
		{"-1 words", func(p *api.Program) { p.Funcs[0].Params[1].Words = -1 }},
		{"results below 0", func(p *api.Program) { p.Funcs[0].Results = -1 }},
		{"five results", func(p *api.Program) { p.Funcs[0].Results = 5 }},
		{"thirteen locals", func(p *api.Program) { p.Funcs[0].Homes = slices.Repeat([]int{-1}, 13) }},
		{"very many locals", func(p *api.Program) { p.Funcs[0].Homes = make([]int, 1<<20) }},
		{"seven slots", func(p *api.Program) { p.Funcs[0].Slots = append(p.Funcs[0].Slots, 1, 1, 1, 1) }},
		{"a slot of no words", func(p *api.Program) { p.Funcs[0].Slots[0] = 0 }},
		{"a slot of nine words", func(p *api.Program) { p.Funcs[0].Slots[0] = 9 }},
		{"a slot of -1 words", func(p *api.Program) { p.Funcs[0].Slots[0] = -1 }},
		{"no blocks", func(p *api.Program) { p.Funcs[0].Blocks = nil }},
		{"thirteen blocks", func(p *api.Program) { p.Funcs[0].Blocks = slices.Repeat(p.Funcs[0].Blocks[2:3], 13) }},
		{"the last block without instructions", func(p *api.Program) { p.Funcs[0].Blocks[3] = nil }},
		{"a block of 25", func(p *api.Program) {
			p.Funcs[0].Blocks[1] = append(slices.Repeat([]api.Ins{{Op: api.Copy}}, 24), api.Ins{Op: api.Goto})
		}},
		{"a home below -1", func(p *api.Program) { p.Funcs[0].Homes[0] = -2 }},
		{"a home that is none of both tables", func(p *api.Program) { p.Funcs[0].Homes[0] = 14 }},
		{"a home far above", func(p *api.Program) { p.Funcs[0].Homes[0] = math.MaxInt }},
		{"a temporary home of both tables", func(p *api.Program) { p.Funcs[0].Homes[0] = 10 }},
		{"a home of two", func(p *api.Program) { p.Funcs[0].Homes[3] = 5 }},
		{"a home of two, further apart", func(p *api.Program) { p.Funcs[0].Homes[4] = 5 }},
		{"a word into no local", func(p *api.Program) { p.Funcs[0].Params[0].To = 5 }},
		{"a word into a local below 0", func(p *api.Program) { p.Funcs[0].Params[0].To = -1 }},
		{"a block into no slot", func(p *api.Program) { p.Funcs[0].Params[1].To = 3 }},
		{"a block into a slot below 0", func(p *api.Program) { p.Funcs[0].Params[1].To = -1 }},
		{"a block into a smaller slot", func(p *api.Program) { p.Funcs[0].Params[1] = api.Param{Words: 2, To: 1} }},
		{"a block into a greater slot", func(p *api.Program) { p.Funcs[0].Params[3] = api.Param{Words: 1, To: 0} }},
		{"two into one local", func(p *api.Program) { p.Funcs[0].Params[2].To = 3 }},
		{"two into one slot", func(p *api.Program) { p.Funcs[0].Params[3] = api.Param{Words: 2, To: 2} }},
		{"locals that are not there at all", func(p *api.Program) { p.Funcs[0].Homes = nil }},
	})
	allChecked(t, badFunc(1, -1, -1), []alter{
		{"the second one's slot", func(p *api.Program) { p.Funcs[1].Slots[0] = 1 }},
		{"the second one's block", func(p *api.Program) { p.Funcs[1].Blocks[0] = nil }},
	})
}

// Homes of each number, by both tables.
func TestP7Homes(t *testing.T) {
	for _, x := range []struct {
		table api.Table
		none  []int
	}{{tableT(), []int{9, 10, 11, 12, 13, 14, 15, 16}}, {tableU(), []int{10, 11, 12, 13, 14, 15, 16}}} {
		for r := -3; r < 17; r++ {
			p := small()
			p.Funcs[0].Homes = []int{-1, r}
			want := fine
			if r < -1 || slices.Contains(x.none, r) {
				want = badFunc(0, -1, -1)
			}
			isChecked(t, "a home", x.table, p, want)
		}
	}
	linked := few()
	linked.Link = 2
	p := small()
	p.Funcs[0].Homes = []int{2}
	isChecked(t, "a home that would be free without a link", few(), p, fine)
	isChecked(t, "a home in the link", linked, p, badFunc(0, -1, -1))
}

// The most that there may be of all.
func TestP7Most(t *testing.T) {
	f := api.Func{Results: 4, Homes: slices.Repeat([]int{-1}, 12), Slots: []int{8, 8, 8, 8, 8, 8}}
	f.Params = []api.Param{{To: 11}, {To: 0}}
	for k := range 6 {
		f.Params = append(f.Params, api.Param{Words: 8, To: k})
	}
	args := []api.Arg{{From: 11}, {From: 11}}
	for k := range 6 {
		args = append(args, api.Arg{Words: 8, From: 5 - k})
	}
	block := []api.Ins{{Op: api.Call, F: 7, Args: args, Outs: []int{11, 0, 5, 6}}}
	for len(block) < 23 {
		block = append(block, api.Ins{Op: api.Store, D: 11, A: 5, B: 56, N: 8})
	}
	f.Blocks = slices.Repeat([][]api.Ins{append(block, api.Ins{Op: api.If, D: 11, A: 11, B: 0})}, 12)
	isChecked(t, "the most of all", tableT(), api.Program{Funcs: slices.Repeat([]api.Func{f}, 8)}, fine)
}

// wrongIns: an instruction of busy's function 0 that is altered, and where it stands.
type wrongIns struct {
	name      string
	block, at int
	make      func(i *api.Ins)
}

func TestP7Instructions(t *testing.T) {
	all := []wrongIns{
		{"an op below", 0, 0, func(i *api.Ins) { i.Op = 0 }},
		{"an op far below", 0, 0, func(i *api.Ins) { i.Op = math.MinInt }},
		{"an op above", 0, 0, func(i *api.Ins) { i.Op = 19 }},
		{"an op far above", 3, 0, func(i *api.Ins) { i.Op = math.MaxInt }},
		{"Goto ahead of the last", 0, 1, func(i *api.Ins) { *i = api.Ins{Op: api.Goto} }},
		{"Trap ahead of the last", 0, 1, func(i *api.Ins) { *i = api.Ins{Op: api.Trap} }},
		{"If ahead of the last", 0, 1, func(i *api.Ins) { *i = api.Ins{Op: api.If} }},
		{"Return ahead of the last", 0, 1, func(i *api.Ins) { *i = api.Ins{Op: api.Return, Outs: []int{0, 0}} }},
		{"Tail ahead of the last", 0, 1, func(i *api.Ins) { *i = api.Ins{Op: api.Tail, F: 1, Args: []api.Arg{{Words: 2}, {}}} }},
		{"Const as the last", 0, 6, func(i *api.Ins) { *i = api.Ins{Op: api.Const} }},
		{"Ext as the last", 1, 3, func(i *api.Ins) { *i = api.Ins{Op: api.Ext, F: 1} }},
		{"Const into no local", 0, 0, func(i *api.Ins) { i.D = 5 }},
		{"Const into a local below 0", 0, 0, func(i *api.Ins) { i.D = -1 }},
		{"Copy of no local", 0, 1, func(i *api.Ins) { i.A = 5 }},
		{"Copy into no local", 0, 1, func(i *api.Ins) { i.D = 255 }},
		{"Add into no local", 0, 2, func(i *api.Ins) { i.D = 5 }},
		{"Add of no local", 0, 2, func(i *api.Ins) { i.A = -1 }},
		{"Same with no local", 0, 3, func(i *api.Ins) { i.B = 5 }},
		{"Load into no local", 0, 4, func(i *api.Ins) { i.D = 5 }},
		{"Load of no slot", 0, 4, func(i *api.Ins) { i.A = 3 }},
		{"Load of a slot below 0", 0, 4, func(i *api.Ins) { i.A = -1 }},
		{"Load behind the slot", 0, 4, func(i *api.Ins) { i.B = 16 }},
		{"Load far behind the slot", 0, 4, func(i *api.Ins) { i.B = math.MaxInt - 7 }},
		{"Load ahead of the slot", 0, 4, func(i *api.Ins) { i.B = -8 }},
		{"Load far ahead of the slot", 0, 4, func(i *api.Ins) { i.B = math.MinInt }},
		{"Load at no multiple", 0, 4, func(i *api.Ins) { i.B = 4 }},
		{"Load of no bytes", 0, 4, func(i *api.Ins) { i.N = 0 }},
		{"Load of three bytes", 0, 4, func(i *api.Ins) { i.B, i.N = 0, 3 }},
		{"Load of sixteen bytes", 0, 4, func(i *api.Ins) { i.B, i.N = 0, 16 }},
		{"Load of very many bytes", 0, 4, func(i *api.Ins) { i.B, i.N = 0, 1<<63 }},
		{"Load of most bytes", 0, 4, func(i *api.Ins) { i.B, i.N = 0, math.MaxUint64 }},
		{"Load of 8 bytes and what no word has", 0, 4, func(i *api.Ins) { i.B, i.N = 0, 1<<32+8 }},
		{"Store from no local", 0, 5, func(i *api.Ins) { i.D = 5 }},
		{"Store into a smaller slot", 0, 5, func(i *api.Ins) { i.B = 8 }},
		{"Store at no multiple", 0, 5, func(i *api.Ins) { i.B = 5 }},
		{"Store of five bytes", 0, 5, func(i *api.Ins) { i.B, i.N = 0, 5 }},
		{"If of no local", 0, 6, func(i *api.Ins) { i.D = 5 }},
		{"If to no block", 0, 6, func(i *api.Ins) { i.A = 4 }},
		{"If to no other block", 0, 6, func(i *api.Ins) { i.B = 4 }},
		{"If to a block below 0", 0, 6, func(i *api.Ins) { i.B = -1 }},
		{"Goto to no block", 1, 3, func(i *api.Ins) { i.A = 4 }},
		{"Goto to a block below 0", 1, 3, func(i *api.Ins) { i.A = -1 }},
		{"Call of no function", 1, 0, func(i *api.Ins) { i.F = 2 }},
		{"Call of a function below 0", 1, 0, func(i *api.Ins) { i.F = -1 }},
		{"Call with too few", 1, 0, func(i *api.Ins) { i.Args = i.Args[:1] }},
		{"Call with nothing", 1, 0, func(i *api.Ins) { i.Args = nil }},
		{"Call with too many", 1, 0, func(i *api.Ins) { i.Args = append(i.Args, api.Arg{}) }},
		{"Call with very many", 1, 0, func(i *api.Ins) { i.Args = make([]api.Arg, 1<<20) }},
		{"Call with other words", 1, 0, func(i *api.Ins) { i.Args[0] = api.Arg{Words: 1, From: 1} }},
		{"Call with a word for a block", 1, 0, func(i *api.Ins) { i.Args[0] = api.Arg{} }},
		{"Call with a block for a word", 1, 0, func(i *api.Ins) { i.Args[1] = api.Arg{Words: 2} }},
		{"Call with a slot of another size", 1, 0, func(i *api.Ins) { i.Args[0].From = 1 }},
		{"Call with no slot", 1, 0, func(i *api.Ins) { i.Args[0].From = 3 }},
		{"Call with a slot below 0", 1, 0, func(i *api.Ins) { i.Args[0].From = -1 }},
		{"Call with no local", 1, 0, func(i *api.Ins) { i.Args[1].From = 5 }},
		{"Call with a local below 0", 1, 0, func(i *api.Ins) { i.Args[1].From = -1 }},
		{"Call with too few outs", 1, 0, func(i *api.Ins) { i.Outs = i.Outs[:1] }},
		{"Call with too many outs", 1, 0, func(i *api.Ins) { i.Outs = append(i.Outs, 1) }},
		{"Call with two outs the same", 1, 0, func(i *api.Ins) { i.Outs[1] = i.Outs[0] }},
		{"Call into no local", 1, 0, func(i *api.Ins) { i.Outs[1] = 5 }},
		{"Call into a local below 0", 1, 0, func(i *api.Ins) { i.Outs[0] = -1 }},
		{"Ext of none", 1, 1, func(i *api.Ins) { i.F = 2 }},
		{"Ext of one below 0", 1, 1, func(i *api.Ins) { i.F = -1 }},
		{"Ext of another one", 1, 1, func(i *api.Ins) { i.F = 1 }},
		{"Ext with too few", 1, 1, func(i *api.Ins) { i.Args = i.Args[:1] }},
		{"Ext with other words", 1, 1, func(i *api.Ins) { i.Args[0] = api.Arg{Words: 1, From: 1} }},
		{"Ext with a slot of another size", 1, 1, func(i *api.Ins) { i.Args[0].From = 1 }},
		{"Ext with two outs the same", 1, 1, func(i *api.Ins) { i.Outs[1] = i.Outs[0] }},
		{"Ext with too many outs", 1, 2, func(i *api.Ins) { i.Outs = []int{0} }},
		{"Return of too few", 2, 0, func(i *api.Ins) { i.Outs = i.Outs[:1] }},
		{"Return of too many", 2, 0, func(i *api.Ins) { i.Outs = append(i.Outs, 3) }},
		{"Return of no local", 2, 0, func(i *api.Ins) { i.Outs[1] = 5 }},
		{"Return of a local below 0", 2, 0, func(i *api.Ins) { i.Outs[0] = -1 }},
		{"Tail of no function", 3, 0, func(i *api.Ins) { i.F = 2 }},
		{"Tail of a function below 0", 3, 0, func(i *api.Ins) { i.F = -1 }},
		{"Tail with too few", 3, 0, func(i *api.Ins) { i.Args = i.Args[:1] }},
		{"Tail with a slot of another size", 3, 0, func(i *api.Ins) { i.Args[0].From = 1 }},
		{"Tail of a function with other parameters", 3, 0, func(i *api.Ins) { i.F = 0 }},
	}
	for _, x := range all {
		allChecked(t, badFunc(0, x.block, x.at), []alter{{x.name, func(p *api.Program) { x.make(&p.Funcs[0].Blocks[x.block][x.at]) }}})
	}
	allChecked(t, badFunc(0, 3, 0), []alter{{"Tail of a function with other results", func(p *api.Program) {
		p.Funcs[1].Results = 1
		p.Funcs[0].Blocks[1][0].Outs = []int{3}
	}}})
	allChecked(t, badFunc(1, 0, 0), []alter{{"in the second function", func(p *api.Program) { p.Funcs[1].Blocks[0][0].A = 1 }}})
	allChecked(t, badFunc(1, 0, 1), []alter{{"at the end of the second function", func(p *api.Program) { p.Funcs[1].Blocks[0][1].D = 1 }}})
}

// slowCheck: P7 once more, as a list of what may not be.
func slowCheck(t api.Table, p api.Program) plain.Fault {
	if prologue.CheckTable(t) != nil {
		return plain.Fault{E: int(api.ErrTable), Func: -1, Block: -1, At: -1}
	}
	if len(p.Funcs) == 0 || len(p.Funcs) > 8 || len(p.Externs) > 4 || slices.ContainsFunc(p.Externs, sigOut) {
		return badFunc(-1, -1, -1)
	}
	for f, x := range p.Funcs {
		if slowHead(t, x) {
			return badFunc(f, -1, -1)
		}
	}
	for f, x := range p.Funcs {
		for b, list := range x.Blocks {
			for at, i := range list {
				ends := at == len(list)-1
				if i.Op < 1 || i.Op > 18 || ends != (i.Op >= 14) || slices.Equal(slowIns(i), []int{1000}) || slowField(p, x, i) {
					return badFunc(f, b, at)
				}
			}
		}
	}
	return fine
}

func sigOut(s api.Sig) bool {
	return len(s.Params) > 8 || out(s.Results, 5) || slices.ContainsFunc(s.Params, func(n int) bool { return out(n, 9) })
}

// out: not from 0 up to below most.
func out(n, most int) bool { return n < 0 || n >= most }

func slowHead(t api.Table, f api.Func) bool {
	if sigOut(sigOf(f)) || len(f.Homes) > 12 || len(f.Slots) > 6 || len(f.Blocks) < 1 || len(f.Blocks) > 12 {
		return true
	}
	if slices.ContainsFunc(f.Slots, func(n int) bool { return out(n-1, 8) }) || slices.ContainsFunc(f.Blocks, func(b []api.Ins) bool { return out(len(b)-1, 24) }) {
		return true
	}
	homes := map[int]int{t.SP: 1, t.Temps[0]: 1, t.Temps[1]: 1, t.Link: 1}
	for _, r := range f.Homes {
		homes[r]++
		if r != -1 && (out(r, t.Regs) || homes[r] > 1) {
			return true
		}
	}
	for _, x := range f.Params {
		if x.Words == 0 && out(x.To, len(f.Homes)) || x.Words > 0 && (out(x.To, len(f.Slots)) || f.Slots[x.To] != x.Words) {
			return true
		}
	}
	for i, x := range f.Params {
		for k, y := range f.Params {
			if i != k && x.To == y.To && min(x.Words, 1) == min(y.Words, 1) {
				return true
			}
		}
	}
	return false
}

// slowField: whether something is wrong in a field that is needed.
func slowField(p api.Program, f api.Func, i api.Ins) bool {
	local := func(l ...int) bool {
		return slices.ContainsFunc(l, func(k int) bool { return out(k, len(f.Homes)) })
	}
	block := func(b int) bool { return out(b, len(f.Blocks)) }
	switch i.Op {
	case api.Load, api.Store:
		if out(i.A, len(f.Slots)) || i.N != 1 && i.N != 2 && i.N != 4 && i.N != 8 || local(i.D) {
			return true
		}
		return i.B < 0 || uint64(i.B)%i.N != 0 || uint64(i.B)+i.N > 8*uint64(f.Slots[i.A])
	case api.Call, api.Tail:
		if out(i.F, len(p.Funcs)) {
			return true
		}
		if s := sigOf(p.Funcs[i.F]); i.Op == api.Call {
			return slowArgs(f, i, s) || slowOuts(f, i, s)
		} else {
			return slowArgs(f, i, s) || s.Results != f.Results
		}
	case api.Ext:
		return out(i.F, len(p.Externs)) || slowArgs(f, i, p.Externs[i.F]) || slowOuts(f, i, p.Externs[i.F])
	case api.Goto:
		return block(i.A)
	case api.If:
		return local(i.D) || block(i.A) || block(i.B)
	case api.Return:
		return len(i.Outs) != f.Results || local(i.Outs...)
	case api.Trap:
		return false
	case api.Const:
		return local(i.D)
	}
	return local(i.D, i.A, i.B) // of Copy B is 0, as it is not needed
}

func slowArgs(f api.Func, i api.Ins, s api.Sig) bool {
	if len(i.Args) != len(s.Params) {
		return true
	}
	for k, x := range i.Args {
		from := f.Homes
		if x.Words != 0 {
			from = f.Slots
		}
		if x.Words != s.Params[k] || out(x.From, len(from)) || x.Words != 0 && from[x.From] != x.Words {
			return true
		}
	}
	return false
}

func slowOuts(f api.Func, i api.Ins, s api.Sig) bool {
	seen := map[int]int{}
	for _, l := range i.Outs {
		seen[l]++
		if out(l, len(f.Homes)) || seen[l] > 1 {
			return true
		}
	}
	return len(i.Outs) != s.Results
}

func TestP7ManyPrograms(t *testing.T) {
	wrong := 0
	for seed := range int64(120) {
		table := []api.Table{tableT(), tableU(), few(), many()}[seed%4]
		p := makeProgram(seed, table)
		isChecked(t, "a program that may be", table, p, fine)
		m := newMaker(seed)
		for range 30 {
			q := copied(p)
			for range 1 + m.Intn(2) {
				m.spoil(&q)
			}
			kept := untouched(q)
			want := slowCheck(table, q)
			if f := plain.CheckProgram(table, q); f != want {
				t.Fatalf("seed %d: CheckProgram = %+v, want %+v, of %+v", seed, f, want, q)
			}
			if !kept() {
				t.Fatalf("seed %d: the program was written into", seed)
			}
			if want != fine {
				wrong++
			}
		}
	}
	if wrong < 1500 {
		t.Errorf("only %d programs were wrong", wrong)
	}
}

// Each number of one program becomes each of some others.
func TestP7EachNumber(t *testing.T) {
	for k := range leavesOf(busy()) {
		for _, n := range edges {
			p := busy()
			setLeaf(&p, k, n)
			for _, table := range []api.Table{tableT(), tableU()} {
				if f, want := plain.CheckProgram(table, p), slowCheck(table, p); f != want {
					t.Errorf("the number %d is %d: CheckProgram = %+v, want %+v", k, n, f, want)
				}
			}
		}
	}
}
