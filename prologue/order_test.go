package prologue_test

import (
	"math"
	"slices"
	"testing"

	"prologue/api"
	"prologue/plain"
	"prologue/prologue"
)

func pair(to, from api.Place) api.Pair { return api.Pair{To: to, From: from} }

// sources of the places into which something else comes.
func sourcesOf(l []api.Pair) map[api.Place]api.Place {
	from := map[api.Place]api.Place{}
	for _, p := range l {
		if p.To != p.From {
			from[p.To] = p.From
		}
	}
	return from
}

// rings of pairs: from each place back along the pairs, and whether one comes to it again.
func rings(l []api.Pair) int {
	from := sourcesOf(l)
	seen := map[api.Place]bool{}
	count := 0
	for place := range from {
		around := []api.Place{place}
		at, ok := from[place]
		for n := 0; ok && at != place && n < len(l); n++ {
			around = append(around, at)
			at, ok = from[at]
		}
		if !ok || at != place || seen[place] {
			continue
		}
		count++
		for _, p := range around {
			seen[p] = true
		}
	}
	return count
}

// mostMoves that there may be for pairs.
func mostMoves(l []api.Pair) int {
	n := rings(l)
	for to, from := range sourcesOf(l) {
		n++
		if to.Reg == -1 && from.Reg == -1 {
			n++
		}
	}
	return n
}

// wrongMoves: what is wrong with moves for pairs; nothing, if all is well.
func wrongMoves(t api.Table, l, moves []api.Pair) string {
	has := map[api.Place]api.Place{} // what stands in a place, told by where it stood at first
	in := func(p api.Place) api.Place {
		if v, ok := has[p]; ok {
			return v
		}
		return p
	}
	temps := []api.Place{reg(t.Temps[0]), reg(t.Temps[1])}
	for _, p := range moves {
		if p.To.Reg == -1 && p.From.Reg == -1 {
			return "a move between two cells"
		}
		if !slices.Contains(temps, p.To) && !slices.ContainsFunc(l, func(q api.Pair) bool { return q.To == p.To }) {
			return "a place is changed into which nothing comes"
		}
		has[p.To] = in(p.From)
	}
	for _, p := range l {
		if in(p.To) != p.From {
			return "something else came into a place"
		}
	}
	if len(moves) > mostMoves(l) {
		return "too many moves"
	}
	return ""
}

func isOrdered(t *testing.T, name string, table api.Table, l []api.Pair) []api.Pair {
	t.Helper()
	moves, f := plain.Order(table, l)
	if f != fine {
		t.Fatalf("%s: Order(%v) = %+v", name, l, f)
	}
	if wrong := wrongMoves(table, l, moves); wrong != "" {
		t.Fatalf("%s: %s: Order(%v) = %v", name, wrong, l, moves)
	}
	return moves
}

func TestP11Examples(t *testing.T) {
	moves := isOrdered(t, "turned about", tableT(), []api.Pair{pair(reg(1), reg(0)), pair(reg(0), reg(1))})
	if len(moves) != 3 || !slices.ContainsFunc(moves, func(p api.Pair) bool { return p.To == reg(9) || p.To == reg(10) }) {
		t.Errorf("turned about: %v", moves)
	}
	for _, l := range [][]api.Pair{nil, {}} {
		if moves := isOrdered(t, "nothing", tableT(), l); len(moves) != 0 {
			t.Errorf("nothing: %v", moves)
		}
	}
}

// Where the bound leaves no choice, there are just so many moves.
func TestP11Counts(t *testing.T) {
	for _, x := range []struct {
		name   string
		counts int
		l      []api.Pair
	}{
		{"a register to itself", 0, []api.Pair{pair(reg(3), reg(3))}},
		{"a cell to itself", 0, []api.Pair{pair(cell(24), cell(24))}},
		{"both, and what is read there", 2, []api.Pair{pair(reg(3), reg(3)), pair(cell(24), cell(24)), pair(reg(1), cell(24)), pair(cell(0), reg(3))}},
		{"register to register", 1, []api.Pair{pair(reg(3), reg(4))}},
		{"register to cell", 1, []api.Pair{pair(cell(3*8), reg(4))}},
		{"cell to register", 1, []api.Pair{pair(reg(4), cell(8))}},
		{"cell to cell", 2, []api.Pair{pair(cell(0), cell(8))}},
		{"a chain of registers", 3, []api.Pair{pair(reg(0), reg(1)), pair(reg(1), reg(2)), pair(reg(2), reg(3))}},
		{"a chain of registers, the other way", 3, []api.Pair{pair(reg(2), reg(3)), pair(reg(1), reg(2)), pair(reg(0), reg(1))}},
		{"a chain of cells", 6, []api.Pair{pair(cell(16), cell(24)), pair(cell(8), cell(16)), pair(cell(0), cell(8))}},
		{"one to many", 4, []api.Pair{pair(reg(0), reg(7)), pair(reg(1), reg(7)), pair(cell(0), reg(7)), pair(cell(8), reg(7))}},
		{"a ring of three", 4, []api.Pair{pair(reg(0), reg(1)), pair(reg(1), reg(2)), pair(reg(2), reg(0))}},
		{"a register and a cell", 3, []api.Pair{pair(reg(0), cell(0)), pair(cell(0), reg(0))}},
		{"the register 0 and the cell 0", 2, []api.Pair{pair(reg(0), reg(1)), pair(cell(0), reg(1))}},
	} {
		if moves := isOrdered(t, x.name, tableT(), x.l); len(moves) != x.counts {
			t.Errorf("%s: %v", x.name, moves)
		}
	}
}

// Rings of registers, of cells and of both, one and many, with what hangs on them.
func TestP11Rings(t *testing.T) {
	x := many() // of whose registers the first three are no places
	ring := func(places ...api.Place) (l []api.Pair) {
		for k, p := range places {
			l = append(l, pair(p, places[(k+1)%len(places)]))
		}
		return l
	}
	var registers, cells []api.Place
	for k := range 13 {
		registers = append(registers, reg(3+k))
	}
	for k := range 64 {
		cells = append(cells, cell(8*k))
	}
	isOrdered(t, "all registers", x, ring(registers...))
	isOrdered(t, "64 cells", x, ring(cells...))
	isOrdered(t, "registers and cells", x, ring(append(slices.Clone(registers), cells[:51]...)...))
	var small, tails []api.Pair
	for k := range 32 {
		small = append(small, ring(cells[2*k], cells[2*k+1])...)
	}
	isOrdered(t, "32 rings of cells", x, small)
	small = nil
	for k := range 6 {
		small = append(small, ring(registers[2*k], registers[2*k+1])...)
		tails = append(tails, pair(cells[2*k], registers[2*k]), pair(cells[2*k+1], cells[2*k]), pair(cell(800+8*k), registers[2*k+1]))
	}
	isOrdered(t, "six rings of registers", x, small)
	isOrdered(t, "and what hangs on them", x, append(small, tails...))
	isOrdered(t, "the other way", x, append(tails, small...))
}

// All that can be done with two registers and three cells, and one register that is only read.
func TestP11EachList(t *testing.T) {
	to := []api.Place{reg(0), cell(0), reg(1), cell(8), cell(16)}
	from := append(slices.Clone(to), reg(2))
	all := 1
	for range to {
		all *= len(from) + 1
	}
	for n := range all {
		var l []api.Pair
		for _, p := range to {
			if k := n % (len(from) + 1); k < len(from) {
				l = append(l, pair(p, from[k]))
			}
			n /= len(from) + 1
		}
		isOrdered(t, "made up", tableT(), l)
		slices.Reverse(l)
		isOrdered(t, "the other way", tableT(), l)
	}
}

func placesOf(t api.Table, cells int) []api.Place {
	var l []api.Place
	for r := range t.Regs {
		if r != t.SP && r != t.Temps[0] && r != t.Temps[1] {
			l = append(l, reg(r))
		}
	}
	for k := range cells {
		l = append(l, cell(8*k))
	}
	return l
}

func TestP11ManyLists(t *testing.T) {
	m := newMaker(11)
	some := 0
	for range 4000 {
		table := makeTable(m)
		places := placesOf(table, []int{0, 3, 80}[m.Intn(3)])
		var l []api.Pair
		for k, n := range m.Perm(len(places))[:m.Intn(min(len(places), 64)+1)] {
			l = append(l, pair(places[n], places[m.Intn(len(places))]))
			if k > 0 && m.Intn(3) == 0 {
				l[k].From = l[k-1].To
			}
		}
		l = roomy(l, pair(reg(77), reg(77)))
		kept := untouched(l)
		moves := isOrdered(t, "made up", table, l)
		if !kept() {
			t.Fatal("the list was written into")
		}
		for range 3 {
			if again, _ := prologue.Order(table, l); !slices.Equal(moves, again) {
				t.Fatalf("Order(%v) = %v, then %v", l, moves, again)
			}
		}
		if rings(l) > 1 {
			some++
		}
	}
	if some < 100 {
		t.Errorf("only %d lists had more than one ring", some)
	}
}

func isNotOrdered(t *testing.T, name string, table api.Table, l []api.Pair, want api.Errno) {
	t.Helper()
	if moves, err := prologue.Order(table, l); !placeless(err, want) || len(moves) != 0 {
		t.Errorf("%s: Order = %v, %v, want %v", name, moves, err, want)
	}
}

// Each place that is none, as one that something comes to and as one that it comes from.
func TestP11NoPlace(t *testing.T) {
	link := few()
	link.Link = 2
	for name, x := range map[string]api.Table{"T": tableT(), "U": tableU(), "few": few(), "few, with a link": link, "many": many()} {
		good, bad := placesOf(x, 2), []api.Place{reg(x.SP), reg(x.Temps[0]), reg(x.Temps[1]), reg(x.Regs)}
		good = append(good, cell(65528))
		for _, n := range []int{math.MinInt, -1 << 32, -9, -8, -2, 17, 1 << 32, math.MaxInt} {
			bad = append(bad, reg(n))
		}
		for _, n := range []int{math.MinInt, -65536, -16, -8, -4, -1, 1, 4, 7, 9, 12, 65527, 65529, 65532, 65536, 65544, 1 << 32, math.MaxInt - 7, math.MaxInt} {
			bad = append(bad, cell(n))
		}
		for _, n := range []int{math.MinInt, -8, -1, 1, 8, math.MaxInt} {
			bad = append(bad, api.Place{Reg: 2, At: n})
		}
		for _, p := range good {
			isOrdered(t, name, x, []api.Pair{pair(p, cell(16))})
			isOrdered(t, name, x, []api.Pair{pair(cell(16), p)})
			isOrdered(t, name, x, []api.Pair{pair(p, p)})
		}
		for _, p := range bad {
			isNotOrdered(t, name, x, []api.Pair{pair(p, cell(16))}, api.ErrArg)
			isNotOrdered(t, name, x, []api.Pair{pair(cell(16), p)}, api.ErrArg)
			isNotOrdered(t, name, x, []api.Pair{pair(p, p)}, api.ErrArg)
			isNotOrdered(t, name, x, []api.Pair{pair(cell(0), cell(8)), pair(cell(16), p)}, api.ErrArg)
		}
	}
}

func TestP11OnePlace(t *testing.T) {
	for _, p := range []api.Place{reg(0), reg(8), cell(0), cell(65528)} {
		for _, l := range [][]api.Pair{
			{pair(p, reg(1)), pair(p, reg(2))},
			{pair(p, reg(1)), pair(p, reg(1))},
			{pair(p, p), pair(p, p)},
			{pair(p, p), pair(p, cell(8))},
			{pair(p, cell(8)), pair(reg(3), p), pair(reg(2), p), pair(p, p)},
		} {
			isNotOrdered(t, "two come to one place", tableT(), l, api.ErrArg)
			slices.Reverse(l)
			isNotOrdered(t, "two come to one place, the other way", tableT(), l, api.ErrArg)
		}
	}
}

func TestP11Sizes(t *testing.T) {
	var l []api.Pair
	for k := range 64 {
		l = append(l, pair(cell(8*k), reg(0)))
	}
	if moves := isOrdered(t, "as many as there may be", tableT(), l); len(moves) != 64 {
		t.Errorf("as many as there may be: %v", moves)
	}
	one := append(slices.Clone(l), pair(reg(1), reg(1)))
	isNotOrdered(t, "one more", tableT(), one, api.ErrSize)
	isNotOrdered(t, "one more, and places that are none", tableT(), append(one, pair(reg(99), reg(-2))), api.ErrSize)
	isNotOrdered(t, "one more, into one place", tableT(), append(l, l[0]), api.ErrSize)
	isNotOrdered(t, "very many", tableT(), make([]api.Pair, 1<<20), api.ErrSize)
	bad := tableT()
	bad.Temps[1] = bad.SP
	isNotOrdered(t, "the table first", bad, one, api.ErrTable)
	isNotOrdered(t, "a bad table and nothing", bad, nil, api.ErrTable)
}

// What the caller writes into the moves, also into their spare room, is seen nowhere else (P2).
func TestP11Memory(t *testing.T) {
	l := []api.Pair{pair(reg(0), reg(1)), pair(reg(1), reg(0)), pair(cell(0), cell(8)), pair(reg(2), cell(0)), pair(reg(3), reg(3))}
	x := tableT()
	list, table := untouched(l), untouched(x)
	a := isOrdered(t, "once", x, l)
	b := isOrdered(t, "twice", x, l)
	want := slices.Clone(b)
	clear(a[:cap(a)])
	if !slices.Equal(b, want) || !list() || !table() {
		t.Errorf("behind it: %v, %v", b, l)
	}
	if again := isOrdered(t, "once more", x, l); !slices.Equal(again, want) {
		t.Errorf("once more: %v", again)
	}
}
