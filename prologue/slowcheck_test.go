package prologue_test

import (
	"fmt"
	"slices"
	"testing"

	"prologue/api"
	"prologue/prologue"
)

// slowChecker: what P14 asks of code, for the tests of what Lower makes. Terms are texts (those of operations a number each, by a list of all that were made), "?" is unknown. What is not right is thrown.
type slowChecker struct {
	t      api.Table
	p      api.Program
	fn     api.Func
	own    api.Layout
	x      api.Frame
	made   map[string]string
	locals []string
	seen   []sight
	// the code's side: which block, what was seen of it, where SP is, what its registers and cells have
	block         int
	stores, calls int
	depth         int
	regs, cells   map[int]string
}

// sight: what is seen of a program's block: a store, or a call with the words of its arguments.
type sight struct {
	text string
	i    api.Ins
	args [][]string
}

type notRight string

func (k *slowChecker) must(yes bool, why string, which ...any) {
	if !yes {
		panic(notRight(fmt.Sprintln(append([]any{why}, which...)...)))
	}
}

// slowValidate: "" if the code of a function is right, else what is wrong with it.
func slowValidate(t api.Table, p api.Program, c api.Code, f int) (wrong string) {
	x, fault := slowFrame(t, p, f)
	var sigs []api.Sig
	for _, fn := range p.Funcs {
		sigs = append(sigs, sigOf(fn))
	}
	fn := p.Funcs[f]
	switch {
	case !slices.EqualFunc(c.Sigs, sigs, sameSig) || !slices.EqualFunc(c.Externs, p.Externs, sameSig) || len(c.Funcs) != len(p.Funcs):
		return "other signatures"
	case fault != fine:
		return "the frame is too large"
	case len(c.Funcs[f]) != len(fn.Blocks)+1:
		return "so many blocks"
	}
	var block, at int
	var move api.Move
	defer func() {
		if w := recover(); w != nil {
			wrong = fmt.Sprintf("block %d, instruction %d, %+v: %s", block, at, move, w.(notRight))
		}
	}()
	for b, moves := range c.Funcs[f] {
		k := &slowChecker{t: t, p: p, fn: fn, own: slowClassify(t, sigOf(fn)), x: x, made: map[string]string{}, block: b, regs: map[int]string{}, cells: map[int]string{}}
		for r := range t.Regs {
			k.regs[r] = "?"
		}
		if b == 0 {
			k.atFirst()
		} else {
			k.atBlock()
			k.look(fn.Blocks[b-1])
		}
		block = b
		k.must(len(moves) > 0, "a block without anything")
		for n, i := range moves {
			at, move = n, i
			if n == len(moves)-1 {
				k.last(i)
			} else {
				k.inner(i)
			}
		}
	}
	return ""
}

// The terms.
func number(n uint64) string { return fmt.Sprint("number ", n) }

func before(r int) string { return fmt.Sprint("before ", r) }

func word(param, n int) string { return fmt.Sprint("argument ", param, " ", n) }

func result(call, n int) string { return fmt.Sprint("result ", call, " ", n) }

func inSlot(slot, at, width, stores int) string {
	return fmt.Sprint("slot ", slot, " ", at, " ", width, " behind ", stores)
}

func (k *slowChecker) of(op int, a, b string) string {
	text := fmt.Sprint(op, " ", a, ", ", b)
	if k.made[text] == "" {
		k.made[text] = fmt.Sprint("made ", len(k.made))
	}
	return k.made[text]
}

func (k *slowChecker) cell(at int) string {
	if v, ok := k.cells[at]; ok {
		return v
	}
	return "?"
}

// get what stands in a place, cells being counted from somewhere on.
func (k *slowChecker) get(p api.Place, from int) string {
	if p.Reg == -1 {
		return k.cell(from + p.At)
	}
	return k.regs[p.Reg]
}

func (k *slowChecker) put(p api.Place, from int, v string) {
	if p.Reg == -1 {
		k.cells[from+p.At] = v
	} else {
		k.regs[p.Reg] = v
	}
}

func (k *slowChecker) home(n int) api.Place {
	if r := k.fn.Homes[n]; r != -1 {
		return reg(r)
	}
	return cell(k.x.Cells + 8*n)
}

// keeps: where each of Saves and the return address are while a function is at work.
func (k *slowChecker) keeps() map[api.Place]string {
	m := map[api.Place]string{}
	for _, r := range k.t.Saves {
		m[reg(r)] = before(r)
	}
	for _, s := range k.x.Saves {
		delete(m, reg(s.Reg))
		m[cell(s.At)] = before(s.Reg)
	}
	switch {
	case k.t.Link == -1:
		m[cell(k.x.Size)] = "return"
	case k.x.Link != -1:
		m[cell(k.x.Link)] = "return"
	default:
		m[reg(k.t.Link)] = "return"
	}
	return m
}

func (k *slowChecker) atFirst() {
	k.depth = k.x.Size
	for _, r := range k.t.Saves {
		k.regs[r] = before(r)
	}
	if k.t.Link == -1 {
		k.cells[k.x.Size] = "return"
	} else {
		k.regs[k.t.Link] = "return"
	}
	k.locals = slices.Repeat([]string{number(0)}, len(k.fn.Homes))
	for n, spot := range k.own.Args {
		if spot.Ref {
			k.put(spot.Places[0], k.x.In, fmt.Sprint("copy ", n))
			continue
		}
		for w, p := range spot.Places {
			k.put(p, k.x.In, word(n, w))
		}
		if x := k.fn.Params[n]; x.Words == 0 {
			k.locals[x.To] = word(n, 0)
		}
	}
}

func (k *slowChecker) atBlock() {
	for p, v := range k.keeps() {
		k.put(p, 0, v)
	}
	for n := range k.fn.Homes {
		k.locals = append(k.locals, fmt.Sprint("local ", n))
		k.put(k.home(n), 0, k.locals[n])
	}
}

// look at the program's block: what its locals have in the end, and what is seen of it.
func (k *slowChecker) look(b []api.Ins) {
	stores, calls := 0, 0
	for _, i := range b {
		switch {
		case i.Op == api.Const:
			k.locals[i.D] = number(i.N)
		case i.Op == api.Copy:
			k.locals[i.D] = k.locals[i.A]
		case i.Op <= api.Same:
			k.locals[i.D] = k.of(i.Op, k.locals[i.A], k.locals[i.B])
		case i.Op == api.Load:
			k.locals[i.D] = inSlot(i.A, i.B, int(i.N), stores)
		case i.Op == api.Store:
			stores++
			k.seen = append(k.seen, sight{text: fmt.Sprint("store ", i.A, i.B, i.N, k.locals[i.D])})
		case i.Op == api.Call || i.Op == api.Ext || i.Op == api.Tail && !k.jumps(i):
			k.seen = append(k.seen, sight{fmt.Sprint(i.Op == api.Ext, i.F), i, k.words(i, stores)})
			for n, out := range i.Outs {
				k.locals[out] = result(calls, n)
			}
			calls++
		case i.Op == api.Tail: // it is not seen ahead of the last instruction
			k.seen = append(k.seen, sight{"leap", i, k.words(i, stores)})
		}
	}
}

func (k *slowChecker) jumps(i api.Ins) bool {
	l := slowClassify(k.t, sigOf(k.p.Funcs[i.F]))
	return l.Copies == 0 && l.Size <= k.own.Size && len(l.Results) <= len(k.t.Results)
}

func (k *slowChecker) words(i api.Ins, stores int) (l [][]string) {
	for _, a := range i.Args {
		words := []string{}
		if a.Words == 0 {
			words = append(words, k.locals[a.From])
		}
		for n := range a.Words {
			words = append(words, inSlot(a.From, 8*n, 8, stores))
		}
		l = append(l, words)
	}
	return l
}

// next thing that is seen must be this.
func (k *slowChecker) next(text string) sight {
	k.must(len(k.seen) > 0 && k.seen[0].text == text, "not what is seen next")
	s := k.seen[0]
	k.seen = k.seen[1:]
	return s
}

// inner instruction, ahead of the last one.
func (k *slowChecker) inner(i api.Move) {
	needs := map[int]int{api.Li: 1, api.Mov: 2, api.Ld: 1, api.St: 1, api.Ldx: 2, api.Lea: 1}[i.Op]
	if i.Op >= api.Add && i.Op <= api.Same {
		needs = 3
	}
	for _, r := range []int{i.R, i.A, i.B}[:needs] {
		k.must(!out(r, k.t.Regs) && r != k.t.SP, "a register")
	}
	switch {
	case i.Op == api.Li:
		k.regs[i.R] = number(uint64(i.N))
	case i.Op == api.Mov:
		k.regs[i.R] = k.regs[i.A]
	case i.Op >= api.Add && i.Op <= api.Same:
		k.regs[i.R] = k.of(i.Op, k.regs[i.A], k.regs[i.B])
	case i.Op == api.Ld, i.Op == api.St:
		k.access(i)
	case i.Op == api.Ldx:
		k.regs[i.R] = k.fetch(i)
	case i.Op == api.Lea:
		k.must(i.N >= 0 && i.N <= 1<<20, "an offset")
		k.regs[i.R] = fmt.Sprint("address ", k.depth+int(i.N))
	case i.Op == api.Sp:
		k.must(i.N >= -1<<20 && i.N <= 1<<20, "an offset")
		k.depth += int(i.N)
		k.must(k.depth >= 0 && k.depth <= k.x.Size, "the depth")
	case i.Op == api.Calls, i.Op == api.Exts:
		k.call(i)
	default:
		k.must(false, "an instruction that may not stand here")
	}
}

func (k *slowChecker) fetch(i api.Move) string {
	for n, x := range k.fn.Params {
		if k.regs[i.A] == fmt.Sprint("copy ", n) {
			k.must(i.N >= 0 && i.N < int64(8*x.Words) && i.N%8 == 0, "not in the copy")
			return word(n, int(i.N)/8)
		}
	}
	panic(notRight("no address of a copy"))
}

func (k *slowChecker) access(i api.Move) {
	k.must(i.N >= 0 && i.N <= 1<<20, "an offset")
	k.must(slices.Contains([]int{1, 2, 4, 8}, i.W), "a width")
	at := k.depth + int(i.N)
	k.must(at+i.W <= k.x.In+k.own.Size, "beyond the area")
	for n, begin := range k.x.Slots {
		if k.block == 0 || at < begin || at+i.W > begin+8*k.fn.Slots[n] {
			continue
		}
		k.must((at-begin)%i.W == 0, "not at a multiple of the width")
		if i.Op == api.Ld {
			k.regs[i.R] = inSlot(n, at-begin, i.W, k.stores)
			return
		}
		k.next(fmt.Sprint("store ", n, at-begin, uint64(i.W), k.regs[i.R]))
		k.stores++
		return
	}
	k.must(i.W == 8 && at%8 == 0, "not a cell")
	if i.Op == api.Ld {
		k.regs[i.R] = k.cell(at)
	} else {
		k.cells[at] = k.regs[i.R]
	}
}

func (k *slowChecker) call(i api.Move) {
	s := k.next(fmt.Sprint(i.Op == api.Exts, i.F))
	k.must(k.depth == 0, "the depth at a call")
	l := slowClassify(k.t, k.called(s.i))
	k.argsStand(l, s.args, 0)
	for r := range k.t.Regs {
		if !slices.Contains(k.t.Saves, r) {
			k.regs[r] = "?"
		}
	}
	for at := 0; at < l.Size; at += 8 {
		delete(k.cells, at)
	}
	for n, p := range l.Results {
		k.put(p, 0, result(k.calls, n))
	}
	k.calls++
}

func (k *slowChecker) called(i api.Ins) api.Sig {
	if i.Op == api.Ext {
		return k.p.Externs[i.F]
	}
	return sigOf(k.p.Funcs[i.F])
}

func (k *slowChecker) argsStand(l api.Layout, args [][]string, from int) {
	for n, spot := range l.Args {
		for w, v := range args[n] {
			if !spot.Ref {
				k.must(k.get(spot.Places[w], from) == v, "an argument: the word, which one", w, n)
				continue
			}
			at := -1
			fmt.Sscanf(k.get(spot.Places[0], from), "address %d", &at)
			k.must(at >= k.x.Out && at%8 == 0 && at+8*len(args[n]) <= k.x.Out+k.x.Copies, "the address of the copy", n)
			k.must(k.cell(at+8*w) == v, "a copy: the word, which one", w, n)
		}
	}
}

func (k *slowChecker) stands() {
	k.must(k.depth == 0, "the depth")
	for p, v := range k.keeps() {
		k.must(k.get(p, 0) == v, "not where it is kept:", v, p)
	}
	for n := range k.fn.Homes {
		k.must(k.get(k.home(n), 0) == k.locals[n], "the local", n)
	}
}

func (k *slowChecker) isLeft() {
	k.must(k.depth == k.x.Size, "the depth")
	for _, r := range k.t.Saves {
		k.must(k.regs[r] == before(r), "the register", r)
	}
	k.must(k.t.Link != -1 && k.regs[k.t.Link] == "return" || k.t.Link == -1 && k.cell(k.x.Size) == "return", "the return address")
}

func (k *slowChecker) slotsStand() {
	for n, words := range k.fn.Slots {
		param := slices.Index(k.fn.Params, api.Param{Words: words, To: n})
		for w := range words {
			v := number(0)
			if param >= 0 {
				v = word(param, w)
			}
			k.must(k.cell(k.x.Slots[n]+8*w) == v, "a slot: the word, which one", w, n)
		}
	}
}

func (k *slowChecker) last(i api.Move) {
	if k.block == 0 {
		k.must(i.Op == api.Jump && i.A == 1, "how block 0 ends")
		k.stands()
		k.slotsStand()
		return
	}
	b := k.fn.Blocks[k.block-1]
	x := b[len(b)-1]
	if x.Op == api.Tail && k.jumps(x) {
		s := k.next("leap")
		k.must(i.Op == api.Leap && i.F == x.F, "no Leap")
		k.isLeft()
		k.argsStand(slowClassify(k.t, sigOf(k.p.Funcs[x.F])), s.args, k.x.In)
	}
	k.must(len(k.seen) == 0, "something is not seen")
	switch x.Op {
	case api.Goto:
		k.must(i.Op == api.Jump && i.A == x.A+1, "no Jump")
		k.stands()
	case api.If:
		k.must(i.Op == api.Fork && i.A == x.A+1 && i.B == x.B+1 && !out(i.R, k.t.Regs) && i.R != k.t.SP, "no Fork")
		k.must(k.regs[i.R] == k.locals[x.D], "not what is asked for")
		k.stands()
	case api.Trap:
		k.must(i.Op == api.Stop && uint64(i.N) == x.N, "no Stop")
	case api.Return:
		k.must(i.Op == api.Ret, "no Ret")
		k.isLeft()
		for n, p := range k.own.Results {
			k.must(k.get(p, k.x.In) == k.locals[x.Outs[n]], "the result", n)
		}
	case api.Tail:
		if k.jumps(x) {
			return
		}
		k.must(i.Op == api.Ret, "no Ret")
		k.isLeft()
		for n, p := range k.own.Results {
			k.must(k.get(p, k.x.In) == result(k.calls-1, n), "the result", n)
		}
	}
}

// The checker of the tests itself: it takes the document's code, and no other one that wants for one of its instructions.
func TestP13SlowCheck(t *testing.T) {
	code := func() api.Code {
		return coded(sig(1, 0, 0), [][]api.Move{
			{sp(-24), st(5, 16, 8), mov(5, 0), st(1, 8, 8), jump(1)},
			{ld(10, 8, 8), reckon(api.Add, 9, 5, 10), st(9, 8, 8), ld(0, 8, 8), ld(5, 16, 8), sp(24), ret()},
		})
	}
	if wrong := slowValidate(tableT(), adder(), code(), 0); wrong != "" {
		t.Errorf("the document's code: %s", wrong)
	}
	for b, moves := range code().Funcs[0] {
		for n := range moves {
			c := code()
			c.Funcs[0][b] = slices.Delete(c.Funcs[0][b], n, n+1)
			if slowValidate(tableT(), adder(), c, 0) == "" {
				t.Errorf("it takes the code without %+v", moves[n])
			}
		}
	}
}

// Code of which something was changed: where the checker of the tests takes it still, it does what the program does (P16, P17), whoever made it.
func TestP13SlowCheckSpoilt(t *testing.T) {
	taken, refused := 0, 0
	for seed := range int64(120) {
		m := newMaker(seed + 1<<22)
		table := makeTable(m)
		p := makeProgram(seed, table)
		c, err := prologue.Lower(table, p)
		if err != nil {
			continue
		}
		for range 10 {
			d := copiedCode(c)
			m.spoil(&d.Funcs)
			if slices.ContainsFunc(upward(0, len(p.Funcs)), func(f int) bool { return slowValidate(table, p, d, f) != "" }) {
				refused++
				continue
			}
			taken++
			for f := range p.Funcs {
				agree(t, "spoilt", table, p, d, start{f, m.wordsFor(sigOf(p.Funcs[f])), []uint64{1, 2, 0, 3}, 4096, 100})
			}
		}
	}
	if taken < 50 || refused < 400 {
		t.Errorf("%d codes were taken, %d refused", taken, refused)
	}
}
