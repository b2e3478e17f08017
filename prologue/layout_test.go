package prologue_test

import (
	"math"
	"reflect"
	"slices"
	"testing"

	"prologue/api"
	"prologue/plain"
	"prologue/prologue"
)

func reg(r int) api.Place { return api.Place{Reg: r} }

func cell(at int) api.Place { return api.Place{Reg: -1, At: at} }

func spot(places ...api.Place) api.Spot { return api.Spot{Places: places} }

// byRef: the address of a copy, which stands there in the copies.
func byRef(at int, place api.Place) api.Spot {
	return api.Spot{Places: []api.Place{place}, Ref: true, At: at}
}

func sig(results int, params ...int) api.Sig { return api.Sig{Params: params, Results: results} }

// sameLayout takes a list without anything in it as the same, be it nil or not.
func sameLayout(a, b api.Layout) bool {
	return a.Size == b.Size && a.Copies == b.Copies && slices.Equal(a.Results, b.Results) &&
		slices.EqualFunc(a.Args, b.Args, func(x, y api.Spot) bool {
			return x.Ref == y.Ref && x.At == y.At && slices.Equal(x.Places, y.Places)
		})
}

func isLaid(t *testing.T, name string, table api.Table, s api.Sig, want api.Layout) {
	t.Helper()
	if got, err := prologue.Classify(table, s); err != nil || !sameLayout(got, want) {
		t.Errorf("%s: Classify = %+v, %v, want %+v", name, got, err, want)
	}
}

// withArgs: table T with other Args, ByRef and Pairs.
func withArgs(args []int, byref int, pairs bool) api.Table {
	t := tableT()
	t.Args, t.ByRef, t.Pairs = args, byref, pairs
	return t
}

func TestP9Examples(t *testing.T) {
	isLaid(t, "by T", tableT(), sig(3, 0, 0, 2, 3, 0), api.Layout{
		Args:    []api.Spot{spot(reg(0)), spot(reg(1)), spot(reg(2), reg(3)), byRef(0, cell(0)), spot(cell(8))},
		Results: []api.Place{reg(0), reg(1), cell(16)}, Size: 24, Copies: 24,
	})
	isLaid(t, "by U", tableU(), sig(1, 0, 2, 0), api.Layout{
		Args:    []api.Spot{spot(reg(0)), spot(reg(2), reg(3)), spot(cell(16))},
		Results: []api.Place{reg(0)}, Size: 24,
	})
}

// Size without any cell is Shadow, whatever goes in registers.
func TestP9WithoutCells(t *testing.T) {
	for shadow := 0; shadow <= 32; shadow += 8 {
		x := tableT()
		x.Shadow = shadow
		isLaid(t, "nothing", x, sig(0), api.Layout{Size: shadow})
		isLaid(t, "registers", x, sig(2, 2, 2), api.Layout{
			Args: []api.Spot{spot(reg(0), reg(1)), spot(reg(2), reg(3))}, Results: []api.Place{reg(0), reg(1)}, Size: shadow})
		isLaid(t, "a copy", x, sig(0, 8), api.Layout{Args: []api.Spot{byRef(0, reg(0))}, Size: shadow, Copies: 64})
		isLaid(t, "a word too many", x, sig(0, 0, 0, 0, 0, 0), api.Layout{
			Args: []api.Spot{spot(reg(0)), spot(reg(1)), spot(reg(2)), spot(reg(3)), spot(cell(shadow))}, Size: shadow + 8})
		isLaid(t, "a result too many", x, sig(3), api.Layout{Results: []api.Place{reg(0), reg(1), cell(shadow)}, Size: shadow + 8})
	}
}

// Blocks of ByRef words go by value, those of one more by reference.
func TestP9ByRef(t *testing.T) {
	args := []int{8, 4, 3, 2, 1, 0}
	for byref := range 5 {
		x := withArgs(args, byref, false)
		for words := 1; words <= byref; words++ {
			want := api.Layout{Args: []api.Spot{{}, spot(reg(args[words]))}}
			for k := range words {
				want.Args[0].Places = append(want.Args[0].Places, reg(args[k]))
			}
			isLaid(t, "by value", x, sig(0, words, 0), want)
		}
		for words := byref + 1; words <= 8; words++ {
			isLaid(t, "by reference", x, sig(0, words, 0), api.Layout{Args: []api.Spot{byRef(0, reg(8)), spot(reg(4))}, Copies: 8 * words})
		}
	}
}

// Copies stand one behind the other, be their addresses in registers or in cells.
func TestP9Copies(t *testing.T) {
	x := withArgs([]int{3, 1}, 2, false)
	isLaid(t, "copies", x, sig(0, 3, 1, 5, 2, 0, 8), api.Layout{
		Args: []api.Spot{byRef(0, reg(3)), spot(reg(1)), byRef(24, cell(0)), spot(cell(8), cell(16)), spot(cell(24)), byRef(64, cell(32))},
		Size: 40, Copies: 128,
	})
	var want api.Layout
	for k := range 8 {
		want.Args = append(want.Args, byRef(64*k, cell(8*k)))
	}
	want.Size, want.Copies = 64, 512
	isLaid(t, "as many as there may be", withArgs(nil, 0, true), sig(0, 8, 8, 8, 8, 8, 8, 8, 8), want)
}

// A block that finds too few registers goes into cells, and so does all behind it.
func TestP9TooFewRegisters(t *testing.T) {
	isLaid(t, "one is left, two are asked for", tableT(), sig(0, 0, 0, 0, 2, 0, 1, 8), api.Layout{
		Args: []api.Spot{spot(reg(0)), spot(reg(1)), spot(reg(2)), spot(cell(0), cell(8)), spot(cell(16)), spot(cell(24)), byRef(0, cell(32))},
		Size: 40, Copies: 64,
	})
	isLaid(t, "just as many are left", tableT(), sig(0, 0, 0, 2, 0), api.Layout{
		Args: []api.Spot{spot(reg(0)), spot(reg(1)), spot(reg(2), reg(3)), spot(cell(0))}, Size: 8})
	isLaid(t, "none is left", tableT(), sig(0, 2, 2, 1, 1), api.Layout{
		Args: []api.Spot{spot(reg(0), reg(1)), spot(reg(2), reg(3)), spot(cell(0)), spot(cell(8))}, Size: 16})
	isLaid(t, "there is none at all", withArgs(nil, 4, false), sig(1, 4, 0), api.Layout{
		Args: []api.Spot{spot(cell(0), cell(8), cell(16), cell(24)), spot(cell(32))}, Results: []api.Place{reg(0)}, Size: 40})
	isLaid(t, "the first one finds too few", withArgs([]int{4, 3, 8}, 4, false), sig(0, 4, 0, 3, 1), api.Layout{
		Args: []api.Spot{spot(cell(0), cell(8), cell(16), cell(24)), spot(cell(32)), spot(cell(40), cell(48), cell(56)), spot(cell(64))}, Size: 72})
}

// With Pairs a register is left out ahead of a block of two words and more, and of nothing else.
func TestP9Pairs(t *testing.T) {
	args := []int{8, 4, 3, 2, 1, 0}
	x := withArgs(args, 3, true)
	isLaid(t, "ahead of two words", x, sig(0, 0, 2, 0, 0), api.Layout{
		Args: []api.Spot{spot(reg(8)), spot(reg(3), reg(2)), spot(reg(1)), spot(reg(0))}})
	isLaid(t, "ahead of three", x, sig(0, 0, 3, 0), api.Layout{
		Args: []api.Spot{spot(reg(8)), spot(reg(3), reg(2), reg(1)), spot(reg(0))}})
	isLaid(t, "not ahead of one", x, sig(0, 0, 1, 2), api.Layout{
		Args: []api.Spot{spot(reg(8)), spot(reg(4)), spot(reg(3), reg(2))}})
	isLaid(t, "not ahead of an address", x, sig(0, 0, 4, 2), api.Layout{
		Args: []api.Spot{spot(reg(8)), byRef(0, reg(4)), spot(reg(3), reg(2))}, Copies: 32})
	isLaid(t, "behind three words one more", x, sig(0, 3, 2), api.Layout{
		Args: []api.Spot{spot(reg(8), reg(4), reg(3)), spot(reg(1), reg(0))}})
	isLaid(t, "one that was left out counts", x, sig(0, 0, 2, 2, 0), api.Layout{
		Args: []api.Spot{spot(reg(8)), spot(reg(3), reg(2)), spot(reg(1), reg(0)), spot(cell(0))}, Size: 8})
	isLaid(t, "too few behind the one that is left out", x, sig(0, 0, 2, 0, 2, 0), api.Layout{
		Args: []api.Spot{spot(reg(8)), spot(reg(3), reg(2)), spot(reg(1)), spot(cell(0), cell(8)), spot(cell(16))}, Size: 24})
	odd := withArgs([]int{4, 3, 2}, 2, true)
	isLaid(t, "too few for it alone", odd, sig(0, 0, 2, 0), api.Layout{
		Args: []api.Spot{spot(reg(4)), spot(cell(0), cell(8)), spot(cell(16))}, Size: 24})
	isLaid(t, "none is left to leave out", odd, sig(0, 0, 0, 0, 2, 2, 0, 1), api.Layout{
		Args: []api.Spot{spot(reg(4)), spot(reg(3)), spot(reg(2)), spot(cell(0), cell(8)), spot(cell(16), cell(24)), spot(cell(32)), spot(cell(40))}, Size: 48})
	x.Pairs = false
	isLaid(t, "without Pairs none is", x, sig(0, 0, 2, 3), api.Layout{
		Args: []api.Spot{spot(reg(8)), spot(reg(4), reg(3)), spot(reg(2), reg(1), reg(0))}})
}

// Results beyond the registers stand behind the cells of the arguments.
func TestP9Results(t *testing.T) {
	x := tableU()
	for have := range 5 {
		x.Results = upward(2, have)
		for results := range 5 {
			var alone, behind api.Layout
			alone.Size, behind.Size = 16, 32
			behind.Args = []api.Spot{spot(reg(0), reg(1)), spot(reg(2), reg(3)), spot(cell(16), cell(24))}
			for k := range results {
				if k < have {
					alone.Results, behind.Results = append(alone.Results, reg(2+k)), append(behind.Results, reg(2+k))
					continue
				}
				alone.Results, behind.Results = append(alone.Results, cell(alone.Size)), append(behind.Results, cell(behind.Size))
				alone.Size, behind.Size = alone.Size+8, behind.Size+8
			}
			isLaid(t, "results", x, sig(results), alone)
			isLaid(t, "results behind arguments", x, sig(results, 2, 2, 2), behind)
		}
	}
}

func isNotLaid(t *testing.T, name string, table api.Table, s api.Sig, want api.Errno) {
	t.Helper()
	got, err := prologue.Classify(table, s)
	if !placeless(err, want) || !reflect.DeepEqual(got, api.Layout{}) {
		t.Errorf("%s: Classify = %+v, %v, want %v", name, got, err, want)
	}
}

func TestP9Errors(t *testing.T) {
	for _, n := range []int{math.MinInt, -8, -1, 9, 10, 255, 1 << 32, math.MaxInt} {
		isNotLaid(t, "words", tableT(), sig(0, n), api.ErrArg)
		isNotLaid(t, "words of the last one", tableT(), sig(4, 0, 0, 0, 0, 0, 0, 0, n), api.ErrArg)
		isNotLaid(t, "results", tableT(), sig(n), api.ErrArg)
	}
	isNotLaid(t, "five results", tableT(), sig(5, 0), api.ErrArg)
	isNotLaid(t, "nine parameters", tableT(), sig(0, make([]int, 9)...), api.ErrArg)
	isNotLaid(t, "very many parameters", tableT(), sig(0, make([]int, 1<<20)...), api.ErrArg)
	if _, err := prologue.Classify(tableT(), sig(4, 8, 8, 8, 8, 8, 8, 8, 8)); err != nil {
		t.Errorf("the most that there may be: %v", err)
	}
	bad := tableT()
	bad.ByRef = 5
	isNotLaid(t, "a bad table", bad, sig(0), api.ErrTable)
	isNotLaid(t, "the table first", bad, sig(5, 9), api.ErrTable)
	isNotLaid(t, "no table", api.Table{}, sig(0), api.ErrTable)
}

// slowClassify: P9 once more, with the registers that are left as a list.
func slowClassify(t api.Table, s api.Sig) api.Layout {
	l := api.Layout{Size: t.Shadow}
	left, odd := t.Args, false
	cells := func(n int) (places []api.Place) {
		for ; n > 0; n-- {
			places = append(places, cell(l.Size))
			l.Size += 8
		}
		return places
	}
	registers := func(n int) (places []api.Place) {
		for ; n > 0; n-- {
			places = append(places, reg(left[0]))
			left, odd = left[1:], !odd
		}
		return places
	}
	for _, words := range s.Params {
		x := api.Spot{Ref: words > t.ByRef}
		if x.Ref {
			x.At = l.Copies
			l.Copies += 8 * words
		}
		n := 1
		if words > 0 && !x.Ref {
			n = words
		}
		if t.Pairs && n > 1 && odd && len(left) > 0 {
			registers(1)
		}
		if n <= len(left) {
			x.Places = registers(n)
		} else {
			x.Places, left = cells(n), nil
		}
		l.Args = append(l.Args, x)
	}
	for k := range s.Results {
		if k < len(t.Results) {
			l.Results = append(l.Results, reg(t.Results[k]))
		} else {
			l.Results = append(l.Results, cells(1)...)
		}
	}
	return l
}

// makeTable: one that may be, by a row of numbers.
func makeTable(m *maker) api.Table {
	t := api.Table{Regs: 4 + m.Intn(13), Link: -1, Align: 8 << m.Intn(3), Shadow: 8 * m.Intn(5), ByRef: m.Intn(5), Pairs: m.Intn(2) == 0}
	free := m.Perm(t.Regs)
	t.SP, t.Temps, free = free[0], [2]int{free[1], free[2]}, free[3:]
	if m.Intn(2) == 0 {
		t.Link, free = free[0], free[1:]
	}
	saves := m.Intn(min(len(free), 12) + 1)
	t.Saves, free = free[:saves], free[saves:]
	t.Args = pick(m, free, 8)
	t.Results = pick(m, free, 4)
	return t
}

// pick: some of these, in any order.
func pick(m *maker, from []int, most int) []int {
	var l []int
	for _, k := range m.Perm(len(from))[:m.Intn(min(len(from), most)+1)] {
		l = append(l, from[k])
	}
	return l
}

func asSlowLaid(t *testing.T, table api.Table, s api.Sig) {
	t.Helper()
	if got, err := prologue.Classify(table, s); err != nil || !sameLayout(got, slowClassify(table, s)) {
		t.Fatalf("Classify(%+v, %v) = %+v, %v, want %+v", table, s, got, err, slowClassify(table, s))
	}
}

// All signatures of up to four parameters of up to five words, by tables with each number of Args.
func TestP9EachSignature(t *testing.T) {
	var all [][]int
	next := [][]int{nil}
	for range 5 {
		all = append(all, next...)
		var longer [][]int
		for _, l := range next {
			for words := range 6 {
				longer = append(longer, append(slices.Clone(l), words))
			}
		}
		next = longer
	}
	for args := range 9 {
		x := many()
		x.Args, x.Results = upward(3, args), []int{5}
		for k := range 10 {
			x.ByRef, x.Pairs = k/2, k%2 == 0
			for n, l := range all {
				asSlowLaid(t, x, sig(n%5, l...))
			}
		}
	}
}

func TestP9ManyTables(t *testing.T) {
	m := newMaker(9)
	for range 4000 {
		x := makeTable(m)
		if err := prologue.CheckTable(x); err != nil {
			t.Fatalf("%+v: %v", x, err)
		}
		s := api.Sig{Results: m.Intn(5)}
		for range m.Intn(9) {
			s.Params = append(s.Params, m.words())
		}
		asSlowLaid(t, x, s)
	}
}

// What the caller writes into a layout, also into its spare room, is seen nowhere else; what is handed in stays as it is (P2).
func TestP9Memory(t *testing.T) {
	x, s := tableT(), sig(3, 0, 2, 3, 0, 2)
	x.Args, x.Results, x.Saves, s.Params = roomy(x.Args, 77), roomy(x.Results, 77), roomy(x.Saves, 77), roomy(s.Params, 77)
	table, params := untouched(x), untouched(s)
	l, _ := prologue.Classify(x, s)
	other, _ := prologue.Classify(x, s)
	lists := [][]api.Place{l.Results[:cap(l.Results)]}
	for _, a := range l.Args {
		lists = append(lists, a.Places[:cap(a.Places)])
	}
	for k, places := range lists {
		for n := range places {
			places[n] = reg(1000 + k)
		}
	}
	for k, places := range lists {
		for _, p := range places {
			if p != reg(1000+k) {
				t.Errorf("two lists share memory: %v", lists)
			}
		}
	}
	clear(l.Args[:cap(l.Args)])
	if !sameLayout(other, slowClassify(x, s)) || !table() || !params() {
		t.Errorf("behind it: %+v, %+v, %+v", other, x, s)
	}
	asSlowLaid(t, x, s)
	if got, f := plain.Classify(x, s); f != fine || !sameLayout(got, other) {
		t.Errorf("plain: %+v, %+v", got, f)
	}
}
