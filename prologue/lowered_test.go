package prologue_test

import (
	"slices"
	"testing"

	"prologue/api"
	"prologue/prologue"
)

// hasOp: whether some instruction of this kind is in the code of a function.
func hasOp(blocks [][]api.Move, op int) bool {
	return slices.ContainsFunc(blocks, func(moves []api.Move) bool {
		return slices.ContainsFunc(moves, func(i api.Move) bool { return i.Op == op })
	})
}

// room: how much of the stack there is in use, if but these functions, whose area is that of the function 0, are at work one behind the other.
func room(t api.Table, p api.Program, funcs ...int) int {
	l := slowClassify(t, sigOf(p.Funcs[0]))
	most := 0
	for _, f := range funcs {
		x, _ := slowFrame(t, p, f)
		most = max(most, x.Size)
	}
	return up(l.Size+l.Copies, t.Align) + pushedBytes(t) + most
}

// fibonacci: two functions that call each other by tail calls, with their words turned about; the second one has slots and more locals. In the end the second word is told outside. n is how many words more they have.
func fibonacci(homes []int, n int) api.Program {
	var more []int
	for k := range n {
		more = append(more, 3+k)
	}
	turned := slices.Clone(more)
	slices.Reverse(turned)
	return api.Program{Externs: []api.Sig{sig(0, 0)}, Funcs: []api.Func{
		{Params: words(3 + n), Homes: homes[:9], Blocks: [][]api.Ins{
			{forks(0, 1, 2)},
			{sets(8, 1), makes(api.Sub, 0, 0, 8), makes(api.Add, 1, 1, 2), tailed(1, local(append([]int{0, 2, 1}, more...)...)...)},
			{asked(0, local(1)), gives()},
		}},
		{Params: words(3 + n), Homes: homes[1:], Slots: []int{3, 8}, Blocks: [][]api.Ins{{stores(1, 1, 56, 8), loads(8, 1, 56, 8), tailed(0, local(append([]int{0, 8, 2}, turned...)...)...)}}},
	}}
}

// A chain of tail calls that are jumps, with words in registers and in cells, takes no more room than the greatest of its frames.
func TestP13Jumps(t *testing.T) {
	for _, n := range []int{0, 2, 5} {
		each(10, func(table api.Table, homes []int) {
			p := fibonacci(homes, n)
			for rounds, want := range map[uint64]uint64{2: 1, 3: 2, 30: 832040} {
				args := append([]uint64{rounds, 0, 1}, 7, 8, 9, 10, 11)[:3+n]
				c := isLowered(t, "jumps", table, p, args, nil, with(given(), api.Event{Words: []uint64{want}}))
				for f := range 2 {
					if !hasOp(c.Funcs[f], api.Leap) || hasOp(c.Funcs[f], api.Calls) {
						t.Fatalf("no jump: %+v, by %+v", c.Funcs[f], table)
					}
				}
				o, err := prologue.Execute(table, c, 0, args, nil, 4096, 100000)
				if least := room(table, p, 0, 1); err != nil || o.Kind != api.Done || o.Peak != least {
					t.Fatalf("%d rounds: %+v, %v, want a depth of %d, by %+v", rounds, o, err, least, table)
				}
			}
		})
	}
}

// swapping: a function of a number, two blocks of so many words and results, that calls itself by a tail call, with its blocks turned about; in the end these are told.
func swapping(homes []int, words, results int) api.Program {
	blocks := []api.Arg{{Words: words, From: 1}, {Words: words, From: 0}}
	return api.Program{Externs: []api.Sig{sig(0, words, words)}, Funcs: []api.Func{{
		Params: []api.Param{{To: 0}, {Words: words, To: 0}, {Words: words, To: 1}}, Results: results, Homes: homes, Slots: []int{words, words}, Blocks: [][]api.Ins{
			{forks(0, 1, 2)},
			{sets(1, 1), makes(api.Sub, 0, 0, 1), loads(2, 0, 0, 1), makes(api.Add, 2, 2, 1), stores(2, 0, 0, 1), tailed(0, append(local(0), blocks...)...)},
			{loads(1, 0, 0, 1), loads(2, 1, 0, 1), asked(0, blocks), gives(upward(0, results)...)},
		},
	}}}
}

// Tail calls with blocks of words, which are jumps or not, and with results that the table has or not.
func TestP13Tails(t *testing.T) {
	jumps, calls := 0, 0
	for words := 1; words <= 5; words++ {
		for results := range 4 {
			each(3, func(table api.Table, homes []int) {
				p := swapping(homes, words, results)
				args := make([]uint64, 1+2*words)
				args[words], args[2*words] = 65, 66
				args[0], args[1], args[1+words] = 5, 20, 40
				// one block gets 1 three times, the other one twice; they are told the second one first
				first, second := slices.Clone(args[1:1+words]), slices.Clone(args[1+words:])
				first[0], second[0] = 23, 42
				want := with(given([]uint64{0, 42, 23}[:results]...), api.Event{Words: slices.Concat(first, second)})
				c := isLowered(t, "blocks turned about", table, p, args, nil, want)
				isJump := slowClassify(table, sigOf(p.Funcs[0])).Copies == 0 && results <= len(table.Results)
				if hasOp(c.Funcs[0], api.Leap) != isJump || hasOp(c.Funcs[0], api.Calls) == isJump {
					t.Fatalf("%d words, %d results, is it a jump? %v: %+v, by %+v", words, results, isJump, c.Funcs[0], table)
				}
				o, _ := prologue.Execute(table, c, 0, args, nil, 8192, 10000)
				if isJump {
					jumps++
				} else {
					calls++
				}
				if (o.Peak == room(table, p, 0)) != isJump {
					t.Fatalf("%d words, %d results, is it a jump? %v: a depth of %d, by %+v", words, results, isJump, o.Peak, table)
				}
			})
		}
	}
	if jumps < 100 || calls < 100 {
		t.Errorf("%d jumps, %d calls", jumps, calls)
	}
}

// Tail calls to a function whose area is larger, smaller, or the same.
func TestP13TailSizes(t *testing.T) {
	for _, own := range []int{1, 2, 4, 5, 8} {
		for _, other := range []int{1, 2, 3, 5, 6, 8} {
			each(8, func(table api.Table, homes []int) {
				var from []int
				for k := range other {
					from = append(from, (3*k+1)%own)
				}
				p := api.Program{Externs: []api.Sig{sig(2, make([]int, other)...)}, Funcs: []api.Func{
					{Params: words(own), Results: 1, Homes: homes, Blocks: [][]api.Ins{{tailed(1, local(from...)...)}}},
					{Params: words(other), Results: 1, Homes: homes[8-other:], Blocks: [][]api.Ins{{asked(0, local(turnedLocals(other)...), upward(0, min(2, other))...), gives(other - 1)}}},
				}}
				if other < 2 {
					p.Externs[0].Results = 1
				}
				var args, told []uint64
				for k := range own {
					args = append(args, uint64(30+k))
				}
				for _, k := range from {
					told = append(told, args[k])
				}
				slices.Reverse(told)
				value := told[0]
				if other <= 2 {
					value = uint64(80 + other)
				}
				isLowered(t, "tails", table, p, args, []uint64{81, 82}, with(given(value), api.Event{Words: told}))
			})
		}
	}
}

// Wrong programs, of which numbers and lists were changed: Lower tells what CheckProgram tells, or which frame is too large.
func TestP13Spoilt(t *testing.T) {
	wrong, right := 0, 0
	for seed := range int64(100) {
		m := newMaker(seed)
		table := makeTable(m)
		p := makeProgram(seed, table)
		for range 30 {
			q := copied(p)
			m.spoil(&q)
			want := slowCheck(table, q)
			for f := range q.Funcs {
				if want == fine {
					_, want = slowFrame(table, q, f)
				}
			}
			if want != fine {
				wrong++
				isNotLowered(t, "spoilt", table, q, want)
				continue
			}
			right++
			lowered(t, "spoilt, and still a program", table, q)
		}
	}
	if wrong < 1000 || right < 500 {
		t.Errorf("%d programs were wrong, %d were not", wrong, right)
	}
}

// All that was made up: programs by tables, each function of which is run.
func TestP13ManyPrograms(t *testing.T) {
	kinds, ops, deep, leaps := map[int]int{}, map[int]int{}, 0, 0
	for seed := range int64(600) {
		m := newMaker(seed)
		table := makeTable(m)
		if seed%3 == 0 {
			table = conventions()[seed/3%9]
		}
		p := copied(makeProgram(seed, table))
		if _, err := prologue.Lower(table, p); err != nil {
			continue
		}
		is := untouched(p)
		c := lowered(t, "made up", table, p)
		for f := range p.Funcs {
			args, script := m.wordsFor(sigOf(p.Funcs[f])), m.wordsFor(api.Sig{Params: []int{m.Intn(9), 0}})
			o, q, w := agree(t, "made up", table, p, c, start{f, args, script, 16384, 300})
			if o.Kind != api.Spent && q.Kind == o.Kind {
				kinds[o.Kind]++
			}
			deep, leaps = deep+w.deepest, leaps+w.leaps
		}
		for _, blocks := range c.Funcs {
			for _, moves := range blocks {
				for _, i := range moves {
					ops[i.Op]++
				}
			}
		}
		if !is() {
			t.Fatalf("seed %d: the program was written into", seed)
		}
	}
	for op := api.Li; op <= api.Stop; op++ {
		if ops[op] < 100 {
			t.Errorf("too few of the instruction %d: %v", op, ops)
		}
	}
	if kinds[api.Done] < 800 || kinds[api.Trapped] < 300 || deep < 3000 || leaps < 100 {
		t.Errorf("outcomes: %v; calls within calls: %d; leaps: %d", kinds, deep, leaps)
	}
}

// mark all lists of code, with their spare room, each by a number of its own; what it gives asks whether the marks are still there.
func mark(c api.Code) (marks []func() bool) {
	n := 1000
	marked := func(l []int) {
		n++
		own, all := n, l[:cap(l)]
		for k := range all {
			all[k] = own
		}
		marks = append(marks, func() bool { return !slices.ContainsFunc(all, func(v int) bool { return v != own }) })
	}
	for _, sigs := range [][]api.Sig{c.Sigs, c.Externs} {
		for _, s := range sigs {
			marked(s.Params)
		}
	}
	for _, blocks := range c.Funcs {
		for _, moves := range blocks {
			n++
			own, all := n, moves[:cap(moves)]
			for k := range all {
				all[k].Op = own
			}
			marks = append(marks, func() bool { return !slices.ContainsFunc(all, func(i api.Move) bool { return i.Op != own }) })
		}
	}
	return marks
}

// What the caller writes into code, also into its spare room, is seen nowhere else; what is handed in is not written into, nor what stands behind it (P2).
func TestP13Memory(t *testing.T) {
	for seed := range int64(60) {
		table := conventions()[seed%9]
		table.Args, table.Results, table.Saves = roomy(table.Args, 77), roomy(table.Results, 77), roomy(table.Saves, 77)
		p := copied(makeProgram(seed, table))
		handedIn := []func() bool{untouched(table), untouched(p)}
		c, err := prologue.Lower(table, p)
		other, _ := prologue.Lower(table, p)
		if err != nil {
			continue
		}
		first := untouched(other)
		for _, is := range mark(c) {
			if !is() {
				t.Fatalf("seed %d: two lists share memory", seed)
			}
		}
		clear(c.Sigs[:cap(c.Sigs)])
		clear(c.Externs[:cap(c.Externs)])
		for _, blocks := range c.Funcs {
			clear(blocks[:cap(blocks)])
		}
		clear(c.Funcs[:cap(c.Funcs)])
		again, _ := prologue.Lower(table, p)
		if !first() || !handedIn[0]() || !handedIn[1]() || !sameCode(other, again) {
			t.Fatalf("seed %d: what was written into one answer is seen elsewhere", seed)
		}
	}
}

func sameCode(a, b api.Code) bool {
	sameBlocks := func(x, y [][]api.Move) bool { return slices.EqualFunc(x, y, slices.Equal[[]api.Move]) }
	return slices.EqualFunc(a.Sigs, b.Sigs, sameSig) && slices.EqualFunc(a.Externs, b.Externs, sameSig) && slices.EqualFunc(a.Funcs, b.Funcs, sameBlocks)
}
