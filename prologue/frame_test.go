package prologue_test

import (
	"math"
	"reflect"
	"slices"
	"testing"

	"prologue/api"
	"prologue/plain"
	"prologue/prologue"
)

// sameFrame takes a list without anything in it as the same, be it nil or not.
func sameFrame(a, b api.Frame) bool {
	return a.Out == b.Out && a.Copies == b.Copies && a.Cells == b.Cells && slices.Equal(a.Slots, b.Slots) && slices.Equal(a.Saves, b.Saves) &&
		a.Link == b.Link && a.Size == b.Size && a.In == b.In
}

func isFrame(t *testing.T, name string, table api.Table, p api.Program, f int, want api.Frame) {
	t.Helper()
	if got, err := prologue.Frame(table, p, f); err != nil || !sameFrame(got, want) {
		t.Errorf("%s: Frame = %+v, %v, want %+v", name, got, err, want)
	}
}

func isNoFrame(t *testing.T, name string, table api.Table, p api.Program, f int, want plain.Fault) {
	t.Helper()
	if got, fault := plain.Frame(table, p, f); fault != want || !reflect.DeepEqual(got, api.Frame{}) {
		t.Errorf("%s: Frame = %+v, %+v, want %+v", name, got, fault, want)
	}
}

func tooLarge(f int) plain.Fault {
	return plain.Fault{E: int(api.ErrFrame), Func: f, Block: -1, At: -1}
}

func TestP10Example(t *testing.T) {
	isFrame(t, "the document's", tableT(), adder(), 0, api.Frame{Saves: []api.Kept{{Reg: 5, At: 16}}, Link: -1, Size: 24, In: 32})
}

// headed: a function of this signature that has a local for each word, a slot for each block, and some more.
func headed(s api.Sig, slots ...int) api.Func {
	f := api.Func{Results: s.Results, Homes: slices.Repeat([]int{-1}, 9)}
	for k, words := range s.Params {
		if words == 0 {
			f.Params = append(f.Params, api.Param{To: k})
			continue
		}
		f.Params = append(f.Params, api.Param{Words: words, To: len(f.Slots)})
		f.Slots = append(f.Slots, words)
	}
	f.Slots = append(f.Slots, slots...)
	f.Blocks = [][]api.Ins{{{Op: api.Trap}}}
	return f
}

// handed: arguments for a signature, out of such a function.
func handed(f api.Func, s api.Sig) []api.Arg {
	var args []api.Arg
	for _, words := range s.Params {
		if words == 0 {
			args = append(args, api.Arg{From: 8})
		} else {
			args = append(args, api.Arg{Words: words, From: slices.Index(f.Slots, words)})
		}
	}
	return args
}

// tailing: a program whose function 0 ends with a tail call of its function 1.
func tailing(own, other api.Sig) api.Program {
	var slots []int
	for _, words := range other.Params {
		if words > 0 && !slices.Contains(own.Params, words) && !slices.Contains(slots, words) {
			slots = append(slots, words)
		}
	}
	f := headed(own, slots...)
	f.Blocks = append(f.Blocks, []api.Ins{{Op: api.Tail, F: 1, Args: handed(f, other)}})
	return api.Program{Funcs: []api.Func{f, headed(other)}}
}

// A tail call that is a jump asks for no area, no copies and no cell for Link; one that is none asks for all of them.
func isTail(t *testing.T, name string, table api.Table, own, other api.Sig, jumps bool) {
	t.Helper()
	got, err := prologue.Frame(table, tailing(own, other), 0)
	var want api.Layout
	link := false
	if !jumps {
		want = slowClassify(table, other)
		link = table.Link != -1
	}
	if err != nil || got.Out != want.Size || got.Copies != want.Copies || got.Cells != want.Size+want.Copies || (got.Link != -1) != link {
		t.Errorf("%s: %v, then %v: Frame = %+v, %v", name, own, other, got, err)
	}
}

func TestP10Jumps(t *testing.T) {
	for _, x := range []struct {
		name       string
		own, other api.Sig
		jumps      bool
	}{
		{"nothing", sig(0), sig(0), true},
		{"the same words", sig(1, 0, 0), sig(1, 0, 0), true},
		{"as many results as the table has", sig(2, 0), sig(2), true},
		{"as many cells", sig(0, 0, 0, 0, 0, 0), sig(0, 2, 2, 1), true},
		{"fewer cells", sig(2, 0, 0, 0, 0, 0, 0), sig(2, 0, 0, 0, 0, 0), true},
		{"copies of its own", sig(0, 8, 3), sig(0, 2), true},
		{"copies", sig(0, 3), sig(0, 3), false},
		{"copies, and much room", sig(0, 3, 0, 0, 0, 0, 0, 0), sig(0, 3), false},
		{"one cell more", sig(0, 0, 0, 0, 0), sig(0, 0, 0, 0, 0, 0), false},
		{"one cell more than one", sig(1, 0, 0, 0, 0, 0), sig(1, 0, 0, 0, 0, 0, 0), false},
		{"results beyond the registers", sig(3), sig(3), false},
		{"results beyond the registers, and much room", sig(3, 0, 0, 0, 0, 0, 0), sig(3), false},
		{"all three", sig(4), sig(4, 0, 0, 0, 0, 5), false},
	} {
		isTail(t, x.name+", by T", tableT(), x.own, x.other, x.jumps)
		isTail(t, x.name+", by U", tableU(), x.own, x.other, x.jumps)
	}
	none := tableU()
	none.Results = nil
	isTail(t, "no results of a table without any", none, sig(0), sig(0), true)
	isTail(t, "a result of a table without any", none, sig(1), sig(1), false)
	four := tableU()
	four.Results = []int{3, 2, 1, 0}
	isTail(t, "four results of a table with four", four, sig(4), sig(4), true)
	own := adder()
	own.Funcs[0].Blocks[0] = []api.Ins{{Op: api.Tail, Args: []api.Arg{{From: 1}, {From: 0}}}}
	isFrame(t, "one's own words turned about", tableT(), own, 0, api.Frame{Saves: []api.Kept{{Reg: 5, At: 16}}, Link: -1, Size: 24, In: 32})
}

// All pairs of some signatures, by the words of P10.
func TestP10EachTail(t *testing.T) {
	params := [][]int{{}, {0}, {1}, {2}, {3}, {5}, {0, 2}, {2, 2}, {0, 0, 0, 2}, {0, 0, 0, 0}, {0, 0, 0, 0, 0}, {2, 2, 1}, {1, 1, 1, 1}, {3, 3, 3}, {0, 4, 2, 0}}
	m := newMaker(10)
	for range 20 {
		x := makeTable(m)
		for results := range 5 {
			for _, a := range params {
				for _, b := range params {
					own, other := sig(results, a...), sig(results, b...)
					to := slowClassify(x, other)
					isTail(t, "made up", x, own, other, to.Copies == 0 && to.Size <= slowClassify(x, own).Size && results <= len(x.Results))
				}
			}
		}
	}
}

// calling: a program whose function 0 has these homes and slots, and calls each of these from outside.
func calling(homes, slots []int, called ...api.Sig) api.Program {
	f := api.Func{Homes: homes, Slots: slots, Blocks: [][]api.Ins{{{Op: api.Return}}}}
	for k, s := range called {
		i := api.Ins{Op: api.Ext, F: k, Outs: upward(0, s.Results)}
		for _, words := range s.Params {
			i.Args = append(i.Args, api.Arg{Words: words, From: max(0, slices.Index(slots, words))})
		}
		f.Blocks = append(f.Blocks, []api.Ins{i, {Op: api.Goto}})
	}
	return api.Program{Externs: called, Funcs: []api.Func{f}}
}

// The areas and the copies of several calls stand in one place: there is room for the greatest of each.
func TestP10Areas(t *testing.T) {
	words, blocks := sig(0, 0, 0, 0, 0, 0, 0, 0), sig(0, 5, 3)
	homes, slots := []int{-1, -1}, []int{5, 3}
	for _, l := range [][]api.Sig{{words, blocks}, {blocks, words}, {sig(0), blocks, words, sig(1, 3)}} {
		p := calling(homes, slots, l...)
		isFrame(t, "by T", tableT(), p, 0, api.Frame{Out: 24, Copies: 64, Cells: 88, Slots: []int{104, 144}, Link: -1, Size: 168, In: 176})
		isFrame(t, "by U", tableU(), p, 0, api.Frame{Out: 40, Copies: 64, Cells: 104, Slots: []int{120, 160}, Link: 184, Size: 192, In: 192})
		p.Funcs = append(p.Funcs, adder().Funcs[0])
		isFrame(t, "one that calls nothing beside it", tableU(), p, 1, api.Frame{Link: -1, Size: 16, In: 16})
	}
	p := calling([]int{-1, -1, -1, -1}, slots, sig(4))
	isFrame(t, "results ask for room, too", tableU(), p, 0, api.Frame{Out: 32, Cells: 32, Slots: []int{64, 104}, Link: 128, Size: 144, In: 144})
	p.Funcs[0].Blocks[1] = p.Funcs[0].Blocks[0]
	isFrame(t, "what is there and not called asks for none", tableU(), p, 0, api.Frame{Slots: []int{32, 72}, Link: -1, Size: 96, In: 96})
}

// A function may be called by Call, too, and by itself; each of the three asks for an area.
func TestP10Calls(t *testing.T) {
	s := sig(0, 0, 0, 0, 0, 0)
	f := headed(s)
	for _, i := range []api.Ins{{Op: api.Call, F: 0}, {Op: api.Call, F: 1}, {Op: api.Ext}} {
		i.Args = handed(f, s)
		f.Blocks = [][]api.Ins{{{Op: api.Trap}}, {{Op: api.Const}, i, {Op: api.Trap}}}
		p := api.Program{Externs: []api.Sig{s}, Funcs: []api.Func{f, headed(s)}}
		isFrame(t, "by T", tableT(), p, 0, api.Frame{Out: 8, Cells: 8, Link: -1, Size: 88, In: 96})
		isFrame(t, "by U", tableU(), p, 0, api.Frame{Out: 24, Cells: 24, Link: 96, Size: 112, In: 112})
		isFrame(t, "what is called, by U", tableU(), p, 1, api.Frame{Link: -1, Size: 80, In: 80})
	}
}

// A call of what asks for no room at all is one: Link is kept.
func TestP10Link(t *testing.T) {
	x := tableU()
	x.Shadow = 0
	isFrame(t, "nothing is called", x, small(), 0, api.Frame{Link: -1})
	p := calling(nil, nil, sig(0))
	isFrame(t, "something is", x, p, 0, api.Frame{Link: 0, Size: 16, In: 16})
	isFrame(t, "and Shadow is left", tableU(), p, 0, api.Frame{Out: 16, Cells: 16, Link: 16, Size: 32, In: 32})
	isFrame(t, "there is no Link", tableT(), p, 0, api.Frame{Link: -1, Size: 8, In: 16})
	x.Link = 0
	x.Args, x.Results = nil, nil
	isFrame(t, "Link is the register 0", x, p, 0, api.Frame{Link: 0, Size: 16, In: 16})
	isFrame(t, "and not kept", x, small(), 0, api.Frame{Link: -1})
}

// Saves by rising numbers, however the table and the homes have them; a home that is none of Saves, and one of Saves that is no home, has no cell.
func TestP10Saves(t *testing.T) {
	x := tableU()
	x.Saves = []int{9, 6, 8, 7}
	p := calling([]int{8, -1, 9, 3, 6, 0}, []int{1})
	isFrame(t, "three of four", x, p, 0, api.Frame{Slots: []int{48}, Saves: []api.Kept{{Reg: 6, At: 56}, {Reg: 8, At: 64}, {Reg: 9, At: 72}}, Link: -1, Size: 80, In: 80})
	p = calling([]int{7, 9, 6, 8}, nil, sig(0))
	isFrame(t, "all four, and Link", x, p, 0, api.Frame{Out: 16, Cells: 16, Saves: []api.Kept{{Reg: 6, At: 48}, {Reg: 7, At: 56}, {Reg: 8, At: 64}, {Reg: 9, At: 72}}, Link: 80, Size: 96, In: 96})
	x.Saves = nil
	isFrame(t, "none", x, p, 0, api.Frame{Out: 16, Cells: 16, Link: 48, Size: 64, In: 64})
	low := many()
	low.Saves, low.SP, low.Align = []int{15, 0}, 3, 8
	isFrame(t, "the lowest and the highest register", low, calling([]int{15, 0}, nil), 0, api.Frame{Saves: []api.Kept{{Reg: 0, At: 16}, {Reg: 15, At: 24}}, Link: -1, Size: 32, In: 40})
}

// In is a multiple of Align, and no greater than it must be.
func TestP10Align(t *testing.T) {
	for _, align := range []int{8, 16, 32} {
		for locals := range 13 {
			p := calling(slices.Repeat([]int{-1}, locals), nil)
			x := tableT()
			x.Align = align
			in := (8*locals + 8 + align - 1) &^ (align - 1)
			isFrame(t, "pushed", x, p, 0, api.Frame{Link: -1, Size: in - 8, In: in})
			x = tableU()
			x.Align = align
			in = (8*locals + align - 1) &^ (align - 1)
			isFrame(t, "with a link", x, p, 0, api.Frame{Link: -1, Size: in, In: in})
			p = calling(slices.Repeat([]int{-1}, locals), nil, sig(0))
			x.Shadow = 0
			in = (8*locals + 8 + align - 1) &^ (align - 1)
			isFrame(t, "with a link that is kept", x, p, 0, api.Frame{Link: 8 * locals, Size: in, In: in})
		}
	}
}

// crowded: a program whose function 1 has, by a table without Args and Shadow, 576 bytes for calls and so many words more (20 to 60).
func crowded(words int) api.Program {
	slots := []int{8}
	for left := words - 12 - 8; left > 0; left -= 8 {
		slots = append(slots, min(left, 8))
	}
	p := calling(slices.Repeat([]int{-1}, 12), slots, sig(0, 8, 8, 8, 8, 8, 8, 8, 8))
	p.Funcs = append(small().Funcs, p.Funcs[0])
	return p
}

func TestP10MaxFrame(t *testing.T) {
	for _, x := range []struct{ align, link, most int }{{8, -1, 1024}, {16, -1, 1016}, {32, -1, 1016}, {8, 12, 1024}, {16, 12, 1024}, {32, 12, 1024}} {
		table := tableU()
		table.Align, table.Link, table.Args, table.Shadow = x.align, x.link, nil, 0
		most := 0
		for words := 20; words <= 60; words++ {
			p := crowded(words)
			in := (576 + 8*words + 8 + x.align - 1) &^ (x.align - 1) // a return address takes a cell, be it pushed or kept
			size := in
			if x.link == -1 {
				size = in - 8
			}
			if _, err := prologue.Frame(table, p, 0); err != nil {
				t.Errorf("%+v: the function beside the large one: %v", x, err)
			}
			if size > 1024 {
				isNoFrame(t, "too large", table, p, 1, tooLarge(1))
				continue
			}
			got, fault := plain.Frame(table, p, 1)
			if fault != fine || got.Size != size || got.In != in || got.Out != 64 || got.Copies != 512 {
				t.Errorf("%+v, %d words: Frame = %+v, %+v", x, words, got, fault)
			}
			most = max(most, got.Size)
		}
		if most != x.most {
			t.Errorf("%+v: the greatest frame has %d bytes", x, most)
		}
	}
}

// Which error comes first.
func TestP10Errors(t *testing.T) {
	badArg := plain.Fault{E: int(api.ErrArg), Func: -1, Block: -1, At: -1}
	x := tableU()
	x.Args = nil
	p := crowded(60)
	for _, f := range []int{math.MinInt, -2, -1, 2, 3, 8, math.MaxInt} {
		isNoFrame(t, "no such function", x, p, f, badArg)
		isNoFrame(t, "no such function of one that is small", tableT(), small(), f, badArg)
	}
	if _, err := prologue.Frame(x, p, 2); !placeless(err, api.ErrArg) {
		t.Errorf("no such function: %#v", err)
	}
	isNoFrame(t, "too large", x, p, 1, tooLarge(1))
	p.Funcs[1].Blocks[1][0].F = 1
	isNoFrame(t, "an instruction, in another function", x, p, 0, badFunc(1, 1, 0))
	isNoFrame(t, "an instruction, and no such function", x, p, 2, badFunc(1, 1, 0))
	p.Funcs[1].Slots[0] = 9
	isNoFrame(t, "a slot", x, p, 1, badFunc(1, -1, -1))
	p.Externs[0].Results = 5
	isNoFrame(t, "a signature", x, p, 1, badFunc(-1, -1, -1))
	x.Align = 4
	isNoFrame(t, "the table", x, p, 1, plain.Fault{E: int(api.ErrTable), Func: -1, Block: -1, At: -1})
	isNoFrame(t, "no program at all", tableT(), api.Program{}, 0, badFunc(-1, -1, -1))
}

// slowFrame: P10 once more: a list of parts, each of so many bytes, of which the beginnings are told.
func slowFrame(t api.Table, p api.Program, f int) (api.Frame, plain.Fault) {
	x := p.Funcs[f]
	own := slowClassify(t, sigOf(x))
	w := api.Frame{Link: -1}
	calls := 0
	for _, b := range x.Blocks {
		for _, i := range b {
			var l api.Layout
			switch i.Op {
			case api.Ext:
				l = slowClassify(t, p.Externs[i.F])
			case api.Call, api.Tail:
				l = slowClassify(t, sigOf(p.Funcs[i.F]))
			default:
				continue
			}
			if i.Op == api.Tail && l.Copies == 0 && l.Size <= own.Size && !slices.ContainsFunc(l.Results, func(p api.Place) bool { return p.Reg == -1 }) {
				continue
			}
			calls++
			w.Out, w.Copies = max(w.Out, l.Size), max(w.Copies, l.Copies)
		}
	}
	end := 0
	part := func(bytes int) int {
		end += bytes
		return end - bytes
	}
	part(w.Out)
	part(w.Copies)
	w.Cells = part(8 * len(x.Homes))
	for _, n := range x.Slots {
		w.Slots = append(w.Slots, part(8*n))
	}
	saves := slices.Clone(t.Saves)
	slices.Sort(saves)
	for _, r := range saves {
		for _, home := range x.Homes {
			if home == r {
				w.Saves = append(w.Saves, api.Kept{Reg: r, At: part(8)})
			}
		}
	}
	pushed := 8
	if t.Link >= 0 {
		pushed = 0
		if calls > 0 {
			w.Link = part(8)
		}
	}
	for (end+pushed)%t.Align != 0 {
		part(8)
	}
	w.Size, w.In = end, end+pushed
	if w.Size > 1024 {
		return api.Frame{}, tooLarge(f)
	}
	return w, fine
}

func TestP10ManyPrograms(t *testing.T) {
	jumps, large := 0, 0
	for seed := range int64(600) {
		m := newMaker(seed)
		table := makeTable(m)
		p := copied(makeProgram(seed, table))
		for f := range p.Funcs {
			kept := untouched(p)
			want, fault := slowFrame(table, p, f)
			got, told := plain.Frame(table, p, f)
			if told != fault || !sameFrame(got, want) {
				t.Fatalf("seed %d: Frame(%d) = %+v, %+v, want %+v, %+v, by %+v", seed, f, got, told, want, fault, table)
			}
			if !kept() {
				t.Fatalf("seed %d: the program was written into", seed)
			}
			if fault != fine {
				large++
			}
			if hasTail(p.Funcs[f]) && want.Out == 0 {
				jumps++
			}
		}
	}
	if jumps < 30 {
		t.Errorf("only %d functions had a tail call that is a jump, %d were too large", jumps, large)
	}
}

func hasTail(f api.Func) bool {
	return slices.ContainsFunc(f.Blocks, func(b []api.Ins) bool { return b[len(b)-1].Op == api.Tail })
}

// Programs that are wrong: Frame tells what CheckProgram tells.
func TestP10Spoilt(t *testing.T) {
	for seed := range int64(60) {
		m := newMaker(seed)
		table := makeTable(m)
		p := makeProgram(seed, table)
		for range 30 {
			q := copied(p)
			m.spoil(&q)
			f := m.Intn(10) - 1
			want := slowCheck(table, q)
			if want == fine && out(f, len(q.Funcs)) {
				want = plain.Fault{E: int(api.ErrArg), Func: -1, Block: -1, At: -1}
			} else if want == fine {
				_, want = slowFrame(table, q, f)
			}
			if _, told := plain.Frame(table, q, f); told != want {
				t.Fatalf("seed %d: Frame(%d) = %+v, want %+v, of %+v", seed, f, told, want, q)
			}
		}
	}
}

// What the caller writes into a frame, also into its spare room, is seen nowhere else (P2).
func TestP10Memory(t *testing.T) {
	x, p := tableT(), calling([]int{7, 5, 6}, []int{1, 2, 3})
	program, table := untouched(p), untouched(x)
	a, _ := prologue.Frame(x, p, 0)
	b, _ := prologue.Frame(x, p, 0)
	want, _ := slowFrame(x, p, 0)
	clear(a.Slots[:cap(a.Slots)])
	clear(a.Saves[:cap(a.Saves)])
	if !sameFrame(b, want) || !program() || !table() {
		t.Errorf("behind it: %+v, %+v", b, p)
	}
	isFrame(t, "once more", x, p, 0, want)
}
