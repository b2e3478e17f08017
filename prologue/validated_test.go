package prologue_test

import (
	"math"
	"slices"
	"testing"

	"prologue/api"
	"prologue/plain"
	"prologue/prologue"
)

// someMove: an instruction that may well stand in the code of a function.
func (m *maker) someMove(t api.Table, p api.Program, x api.Frame, area int) api.Move {
	at := int64(8 * m.Intn((x.In+area)/8+1))
	i := api.Move{Op: 1 + m.Intn(api.Stop), R: m.Intn(t.Regs), A: m.Intn(t.Regs), B: m.Intn(t.Regs), W: 8, F: m.Intn(len(p.Funcs))}
	switch i.Op {
	case api.Li, api.Stop:
		i.N = int64(m.Intn(3))
	case api.Ld, api.St:
		i.N = at
		if m.Intn(4) == 0 {
			i.W = 1 << m.Intn(4)
			i.N += int64(i.W * m.Intn(8))
		}
	case api.Lea, api.Ldx:
		i.N = at
	case api.Sp:
		i.N = []int64{at, -at, 0, int64(x.Size), int64(-x.Size)}[m.Intn(5)]
	case api.Jump, api.Fork:
		i.A, i.B = m.Intn(4), m.Intn(4)
	}
	return i
}

// bent: an instruction of which one number is another one.
func (m *maker) bent(t api.Table, i api.Move) api.Move {
	switch m.Intn(7) {
	case 0:
		i.R = m.Intn(t.Regs)
	case 1:
		i.A = m.Intn(t.Regs)
	case 2:
		i.B = m.Intn(t.Regs)
	case 3:
		i.N += []int64{-16, -8, -4, -1, 1, 4, 8, 16}[m.Intn(8)]
	case 4:
		i.W = 1 << m.Intn(5)
	case 5:
		i.F = m.Intn(3)
	case 6:
		i.Op = 1 + m.Intn(api.Stop)
	}
	return i
}

// change one instruction of a function's code: it is left out, another one is added or comes in its place, or one of its numbers is another one.
func (m *maker) change(t api.Table, p api.Program, c api.Code, f int) api.Code {
	x, _ := slowFrame(t, p, f)
	area := slowClassify(t, sigOf(p.Funcs[f])).Size
	c = copiedCode(c)
	b := m.Intn(len(c.Funcs[f]))
	moves := c.Funcs[f][b]
	at := m.Intn(len(moves))
	switch m.Intn(7) {
	case 0:
		moves = slices.Delete(moves, at, at+1)
	case 1, 2:
		moves = slices.Insert(moves, at, m.someMove(t, p, x, area))
	case 3:
		moves[at] = m.someMove(t, p, x, area)
	case 4:
		moves = slices.Insert(moves, at, moves[m.Intn(len(moves))])
	case 5:
		moves[at] = m.bent(t, moves[at])
	case 6:
		other := m.Intn(len(moves))
		moves[at], moves[other] = moves[other], moves[at]
	}
	c.Funcs[f][b] = moves
	return c
}

// verdict of the code of a function, which the checker of the tests must take or refuse as Validate does.
func verdict(t *testing.T, name string, table api.Table, p api.Program, c api.Code, f int) bool {
	t.Helper()
	ok, err := prologue.Validate(table, p, c, f)
	if wrong := slowValidate(table, p, c, f); err != nil || ok != (wrong == "") {
		t.Fatalf("%s: Validate = %v, %v of the function %d, the checker of the tests says %q, of %+v, by %+v, of %+v", name, ok, err, f, wrong, c, table, p)
	}
	return ok
}

// tally of code that was changed: how much of it was taken, how much refused.
type tally struct{ taken, refused int }

// changes of code that was made of a program: what is still taken does what the program does.
func (k *tally) changes(t *testing.T, m *maker, table api.Table, p api.Program, c api.Code, s start, count int) {
	t.Helper()
	for range count {
		f := m.Intn(len(p.Funcs))
		d := m.change(table, p, c, f)
		if !verdict(t, "changed", table, p, d, f) {
			k.refused++
			continue
		}
		k.taken++
		agree(t, "changed, and taken", table, p, d, s)
	}
}

// Code that was made of programs that were made up, with one instruction changed, left out or added, by all kinds of tables.
func TestP14Changed(t *testing.T) {
	var k tally
	for seed := range int64(240) {
		m := newMaker(seed + 1<<30)
		table := makeTable(m)
		if seed%2 == 0 {
			table = conventions()[seed/2%9]
		}
		p := makeProgram(seed, table)
		c, err := prologue.Lower(table, p)
		if err != nil {
			continue
		}
		for f := range p.Funcs {
			k.changes(t, m, table, p, c, start{f, m.wordsFor(sigOf(p.Funcs[f])), []uint64{1, 2, 0, 3}, 4096, 60}, 12)
		}
	}
	if k.taken < 2000 || k.refused < 8000 {
		t.Errorf("%+v", k)
	}
}

// Small functions, each instruction of whose code is left out, is there twice, changes places with each other one, and gets other numbers, one by one.
func TestP14EachChange(t *testing.T) {
	var k tally
	for n, table := range conventions() {
		m := newMaker(int64(n))
		for _, homes := range homings(table, 3)[3:5] {
			p := api.Program{Externs: []api.Sig{sig(1, 0, 2)}, Funcs: []api.Func{{Params: []api.Param{{To: 0}, {Words: 2}}, Results: 1, Homes: homes, Slots: []int{2}, Blocks: [][]api.Ins{
				{stores(0, 0, 8, 8), makes(api.Add, 1, 0, 2), forks(1, 1, 2)}, {asked(0, []api.Arg{{From: 0}, {Words: 2}}, 1), gives(1)}, {loads(2, 0, 0, 4), gives(2)},
			}}}}
			c := lowered(t, "small", table, p)
			s := start{0, []uint64{5, 6, 7}, []uint64{8}, 4096, 60}
			try := func(b int, moves []api.Move) {
				d := copiedCode(c)
				d.Funcs[0][b] = moves
				if verdict(t, "changed", table, p, d, 0) {
					k.taken++
					agree(t, "changed, and taken", table, p, d, s)
					return
				}
				k.refused++
			}
			for b, moves := range c.Funcs[0] {
				for at, i := range moves {
					try(b, slices.Delete(slices.Clone(moves), at, at+1))
					for other, j := range moves {
						try(b, slices.Insert(slices.Clone(moves), other, i))
						swapped := slices.Clone(moves)
						swapped[at], swapped[other] = j, i
						try(b, swapped)
					}
					for range 20 {
						try(b, slices.Replace(slices.Clone(moves), at, at+1, m.bent(table, i)))
					}
				}
			}
		}
	}
	if k.taken < 2000 || k.refused < 10000 {
		t.Errorf("%+v", k)
	}
}

// Code of any numbers whatever, and programs and tables too: what is wrong is told, and nothing else.
func TestP14AnyNumbers(t *testing.T) {
	counts := map[int]int{}
	for seed := range int64(150) {
		m := newMaker(seed + 1<<31)
		table := makeTable(m)
		p := makeProgram(seed, table)
		c, err := prologue.Lower(table, p)
		if err != nil {
			continue
		}
		for range 40 {
			x, q, d := table, copied(p), copiedCode(c)
			for range 1 + m.Intn(3) {
				m.spoil(&d)
			}
			if m.Intn(4) == 0 {
				m.spoil(&q)
			}
			if m.Intn(20) == 0 {
				x = copiedTable(x)
				m.spoil(&x)
			}
			f := edges[m.Intn(len(edges))]
			if m.Intn(10) > 0 {
				f = m.Intn(len(p.Funcs))
			}
			want := slowCheck(x, q)
			if want == fine && out(f, len(q.Funcs)) {
				want = plain.Fault{E: int(api.ErrArg), Func: -1, Block: -1, At: -1}
			}
			ok, fault := plain.Validate(x, q, d, f)
			if fault != want || ok && fault != fine {
				t.Fatalf("seed %d: Validate = %v, %+v, want %+v", seed, ok, fault, want)
			}
			counts[fault.E]++
			if fault == fine {
				if wrong := slowValidate(x, q, d, f); ok != (wrong == "") {
					t.Fatalf("seed %d: Validate = %v, the checker of the tests says %q, of %+v", seed, ok, wrong, d.Funcs)
				}
			}
		}
	}
	if counts[0] < 2000 || counts[int(api.ErrArg)] < 100 || counts[int(api.ErrFunc)] < 100 || counts[int(api.ErrTable)] < 20 {
		t.Errorf("too few of a kind: %v", counts)
	}
}

func copiedTable(t api.Table) api.Table {
	t.Args, t.Results, t.Saves = slices.Clone(t.Args), slices.Clone(t.Results), slices.Clone(t.Saves)
	return t
}

// Instructions of nothing but numbers of all sizes.
func TestP14WildCode(t *testing.T) {
	for seed := range int64(3000) {
		m := newMaker(seed + 1<<32)
		table := conventions()[seed%9]
		p := adder()
		p.Funcs[0].Homes = homings(table, 2)[seed%10]
		c := lowered(t, "the adder", table, p)
		wild := func() int { return edges[m.Intn(len(edges))] }
		for range 1 + m.Intn(6) {
			b := m.Intn(2)
			i := api.Move{Op: wild(), R: wild(), A: wild(), B: wild(), N: int64(wild()), W: wild(), F: wild()}
			if m.Intn(2) == 0 {
				i.Op = 1 + m.Intn(api.Stop)
			}
			if m.Intn(2) == 0 {
				i.R, i.A, i.B = m.Intn(table.Regs), m.Intn(table.Regs), m.Intn(table.Regs)
			}
			c.Funcs[0][b] = slices.Insert(c.Funcs[0][b], m.Intn(len(c.Funcs[0][b])+1), i)
		}
		verdict(t, "wild", table, p, c, 0)
	}
}

// Code that is very long, with terms that would be very large, were they written out.
func TestP14LongCode(t *testing.T) {
	k := adding(t)
	doubled := slices.Repeat([]api.Move{reckon(api.Add, 9, 9, 9)}, 200000)
	moves := append(append([]api.Move{mov(9, 0)}, doubled...), sp(24), ret())
	c := k.edited(whole(1, moves...))
	if ok, err := prologue.Validate(k.table, k.p, c, 0); !ok || err != nil {
		t.Errorf("long code: %v, %v", ok, err)
	}
	moves[len(moves)-3] = mov(0, 9)
	if ok, err := prologue.Validate(k.table, k.p, c, 0); ok || err != nil {
		t.Errorf("long code with another result: %v, %v", ok, err)
	}
	// a program's own terms: 23 times the double, twice over by copies
	var block []api.Ins
	code := []api.Move{}
	for range api.MaxCode - 1 {
		block, code = append(block, makes(api.Mul, 2, 2, 2)), append(code, reckon(api.Mul, 2, 2, 2))
	}
	k = k.alike(append(block, gives(2)), append(code, mov(0, 2), sp(24), ret())...)
	k.refuses("one less", drop(1, 0))
	k.refuses("one more", add(1, 0, reckon(api.Mul, 2, 2, 2)))
}

// What is handed in is not written into, nor what stands behind it; the answer hangs on nothing else (P2).
func TestP14Memory(t *testing.T) {
	for seed := range int64(60) {
		table := conventions()[seed%9]
		table.Args, table.Results, table.Saves = roomy(table.Args, 77), roomy(table.Results, 77), roomy(table.Saves, 77)
		p := copied(makeProgram(seed, table))
		c, err := prologue.Lower(table, p)
		if err != nil {
			continue
		}
		c = roomyCode(c)
		handedIn := []func() bool{untouched(table), untouched(p), untouched(c)}
		for range 2 {
			for f := range p.Funcs {
				if ok, err := prologue.Validate(table, p, c, f); !ok || err != nil {
					t.Fatalf("seed %d: %v, %v", seed, ok, err)
				}
			}
		}
		for _, is := range handedIn {
			if !is() {
				t.Fatalf("seed %d: something was written into", seed)
			}
		}
	}
}

// roomyCode: code with room behind each of its lists, where something stands.
func roomyCode(c api.Code) api.Code {
	var d api.Code
	for _, s := range c.Sigs {
		d.Sigs = append(d.Sigs, api.Sig{Params: roomy(s.Params, 77), Results: s.Results})
	}
	for _, s := range c.Externs {
		d.Externs = append(d.Externs, api.Sig{Params: roomy(s.Params, 77), Results: s.Results})
	}
	for _, blocks := range c.Funcs {
		var l [][]api.Move
		for _, moves := range blocks {
			l = append(l, roomy(moves, api.Move{Op: 77, N: math.MaxInt64}))
		}
		d.Funcs = append(d.Funcs, roomy(l, []api.Move{ret()}))
	}
	d.Sigs, d.Externs, d.Funcs = roomy(d.Sigs, sig(77)), roomy(d.Externs, sig(77)), roomy(d.Funcs, [][]api.Move{{ret()}})
	return d
}
