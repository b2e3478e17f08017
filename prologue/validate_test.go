package prologue_test

import (
	"math"
	"slices"
	"testing"

	"prologue/api"
	"prologue/plain"
	"prologue/prologue"
)

// trial: code of a program's function 0 that was written by hand. The code of its other functions is lowered.
type trial struct {
	*testing.T
	table api.Table
	p     api.Program
	code  [][]api.Move
}

// edit of the code of a function.
type edit func(blocks [][]api.Move) [][]api.Move

// put these in place of an instruction.
func put(block, at int, m ...api.Move) edit {
	return func(blocks [][]api.Move) [][]api.Move {
		blocks[block] = slices.Replace(blocks[block], at, at+1, m...)
		return blocks
	}
}

// add these ahead of an instruction.
func add(block, at int, m ...api.Move) edit {
	return func(blocks [][]api.Move) [][]api.Move {
		blocks[block] = slices.Insert(blocks[block], at, m...)
		return blocks
	}
}

func drop(block, at int) edit { return put(block, at) }

// swap an instruction and the next one.
func swap(block, at int) edit {
	return func(blocks [][]api.Move) [][]api.Move {
		l := blocks[block]
		l[at], l[at+1] = l[at+1], l[at]
		return blocks
	}
}

// whole block in place of another one.
func whole(block int, m ...api.Move) edit {
	return func(blocks [][]api.Move) [][]api.Move {
		blocks[block] = m
		return blocks
	}
}

func (k trial) edited(edits ...edit) api.Code {
	k.Helper()
	c, err := prologue.Lower(k.table, k.p)
	if err != nil {
		k.Fatal(err)
	}
	var blocks [][]api.Move
	for _, b := range k.code {
		blocks = append(blocks, slices.Clone(b))
	}
	for _, e := range edits {
		blocks = e(blocks)
	}
	c.Funcs[0] = blocks
	return c
}

// isValid: what Validate says must be so, and the checker of the tests must say so, too.
func isValid(t *testing.T, name string, table api.Table, p api.Program, c api.Code, f int, want bool) {
	t.Helper()
	ok, err := prologue.Validate(table, p, c, f)
	if ok != want || err != nil {
		t.Errorf("%s: Validate = %v, %v, want %v", name, ok, err, want)
	}
	if wrong := slowValidate(table, p, c, f); (wrong == "") != want {
		t.Errorf("%s: the checker of the tests says %q, want %v", name, wrong, want)
	}
}

// takes the code with these edits; then it does what the program does.
func (k trial) takes(name string, edits ...edit) {
	k.Helper()
	c := k.edited(edits...)
	isValid(k.T, name, k.table, k.p, c, 0, true)
	m := newMaker(int64(len(name)))
	for range 3 {
		agree(k.T, name, k.table, k.p, c, start{0, m.wordsFor(sigOf(k.p.Funcs[0])), []uint64{1, 2, 3, 0, 4}, 4096, 200})
	}
}

func (k trial) refuses(name string, edits ...edit) {
	k.Helper()
	isValid(k.T, name, k.table, k.p, k.edited(edits...), 0, false)
}

// tried: a trial of code that is taken as it is.
func tried(t *testing.T, table api.Table, p api.Program, code ...[]api.Move) trial {
	t.Helper()
	k := trial{t, table, p, code}
	k.takes("as it is")
	return k
}

// alike: k with another program and another last block.
func (k trial) alike(block []api.Ins, moves ...api.Move) trial {
	k.Helper()
	p := copied(k.p)
	p.Funcs[0].Blocks[len(p.Funcs[0].Blocks)-1] = block
	code := slices.Clone(k.code)
	code[len(code)-1] = moves
	return tried(k.T, k.table, p, code...)
}

// document's function and its code: its frame has the cells 0 and 8, the register 5 at 16, Size 24, In 32.
func document(t *testing.T) trial {
	return tried(t, tableT(), adder(),
		[]api.Move{sp(-24), st(5, 16, 8), mov(5, 0), st(1, 8, 8), jump(1)},
		[]api.Move{ld(10, 8, 8), reckon(api.Add, 9, 5, 10), st(9, 8, 8), ld(0, 8, 8), ld(5, 16, 8), sp(24), ret()})
}

var extremes = []int{math.MinInt, math.MinInt + 1, -1 << 32, -2, -1, 99, 1 << 32, math.MaxInt - 1, math.MaxInt}

func isNotValid(t *testing.T, name string, table api.Table, p api.Program, c api.Code, f int, want plain.Fault) {
	t.Helper()
	if ok, fault := plain.Validate(table, p, c, f); ok || fault != want {
		t.Errorf("%s: Validate = %v, %+v, want %+v", name, ok, fault, want)
	}
}

// Which error comes first, whatever the code is.
func TestP14Errors(t *testing.T) {
	right := document(t).edited()
	placeless := func(e api.Errno) plain.Fault { return plain.Fault{E: int(e), Func: -1, Block: -1, At: -1} }
	for _, c := range []api.Code{right, {}, {Sigs: make([]api.Sig, 3)}, {Funcs: make([][][]api.Move, 9)}} {
		for _, f := range append(extremes, 1, 2) {
			isNotValid(t, "no such function", tableT(), adder(), c, f, placeless(api.ErrArg))
		}
		for _, f := range append(extremes, 0, 1) {
			p := adder()
			p.Funcs[0].Blocks[0][0].D = 2
			isNotValid(t, "an instruction", tableT(), p, c, f, badFunc(0, 0, 0))
			p.Funcs[0].Homes[1] = 5
			isNotValid(t, "a home", tableT(), p, c, f, badFunc(0, -1, -1))
			p.Externs = make([]api.Sig, 5)
			isNotValid(t, "Externs", tableT(), p, c, f, badFunc(-1, -1, -1))
			isNotValid(t, "no program", tableT(), api.Program{}, c, f, badFunc(-1, -1, -1))
			table := tableT()
			table.SP = 12
			isNotValid(t, "a table", table, p, c, f, placeless(api.ErrTable))
			isNotValid(t, "no table", api.Table{}, adder(), c, f, placeless(api.ErrTable))
		}
	}
	p := crowded(60)
	c := api.Code{}
	table := tableU()
	table.Args = nil
	isNotValid(t, "a frame too large, and no such function", table, p, c, len(p.Funcs), placeless(api.ErrArg))
	isNotValid(t, "a frame too large is no error", table, p, c, 1, fine)
}

// What is looked at ahead of the blocks.
func TestP14Heads(t *testing.T) {
	p := api.Program{Externs: []api.Sig{sig(1, 0, 2), sig(0)}, Funcs: []api.Func{
		{Params: []api.Param{{To: 0}, {Words: 2}}, Results: 1, Homes: []int{0}, Slots: []int{2}, Blocks: [][]api.Ins{{goes(1)}, {gives(0)}}},
		{Results: 2, Homes: []int{0, 1}, Blocks: [][]api.Ins{{gives(0, 1)}}},
	}}
	for name, change := range map[string]func(c *api.Code){
		"results of a function":            func(c *api.Code) { c.Sigs[0].Results = 2 },
		"fewer results":                    func(c *api.Code) { c.Sigs[0].Results = 0 },
		"results of another function":      func(c *api.Code) { c.Sigs[1].Results-- },
		"a parameter":                      func(c *api.Code) { c.Sigs[0].Params[0] = 1 },
		"a block's words":                  func(c *api.Code) { c.Sigs[0].Params[1] = 3 },
		"a parameter more":                 func(c *api.Code) { c.Sigs[0].Params = append(c.Sigs[0].Params, 0) },
		"a parameter less":                 func(c *api.Code) { c.Sigs[0].Params = c.Sigs[0].Params[:1] },
		"parameters in another order":      func(c *api.Code) { slices.Reverse(c.Sigs[0].Params) },
		"a parameter of another function":  func(c *api.Code) { c.Sigs[1].Params = []int{0} },
		"signatures in another order":      func(c *api.Code) { slices.Reverse(c.Sigs) },
		"a signature more":                 func(c *api.Code) { c.Sigs = append(c.Sigs, sig(0)) },
		"a signature less":                 func(c *api.Code) { c.Sigs = c.Sigs[:1] },
		"no signatures":                    func(c *api.Code) { c.Sigs = nil },
		"results of something outside":     func(c *api.Code) { c.Externs[0].Results = 0 },
		"a parameter of something outside": func(c *api.Code) { c.Externs[0].Params[1] = 1 },
		"something outside more":           func(c *api.Code) { c.Externs = append(c.Externs, sig(0)) },
		"something outside less":           func(c *api.Code) { c.Externs = c.Externs[:1] },
		"nothing outside":                  func(c *api.Code) { c.Externs = nil },
		"Externs in another order":         func(c *api.Code) { slices.Reverse(c.Externs) },
		"a function more":                  func(c *api.Code) { c.Funcs = append(c.Funcs, c.Funcs[1]) },
		"a function less":                  func(c *api.Code) { c.Funcs = c.Funcs[:1] },
		"no functions":                     func(c *api.Code) { c.Funcs = nil },
		"a function and a signature more": func(c *api.Code) {
			c.Funcs, c.Sigs = append(c.Funcs, c.Funcs[1]), append(c.Sigs, c.Sigs[1])
		},
		"a function and a signature less": func(c *api.Code) { c.Funcs, c.Sigs = c.Funcs[:1], c.Sigs[:1] },
		"very many functions":             func(c *api.Code) { c.Funcs = make([][][]api.Move, 1<<16) },
	} {
		c := lowered(t, name, tableT(), p)
		change(&c)
		isValid(t, name, tableT(), p, c, 0, false)
	}
	for name, change := range map[string]func(c *api.Code){
		"a block more": func(c *api.Code) { c.Funcs[0] = append(c.Funcs[0], []api.Move{ret()}) },
		"the last block twice": func(c *api.Code) {
			c.Funcs[0] = append(c.Funcs[0], c.Funcs[0][2])
		},
		"a block less":                func(c *api.Code) { c.Funcs[0] = c.Funcs[0][:2] },
		"block 0 alone":               func(c *api.Code) { c.Funcs[0] = c.Funcs[0][:1] },
		"no blocks":                   func(c *api.Code) { c.Funcs[0] = nil },
		"a first block without any":   func(c *api.Code) { c.Funcs[0][0] = nil },
		"a block without any":         func(c *api.Code) { c.Funcs[0][1] = nil },
		"a last block without any":    func(c *api.Code) { c.Funcs[0][2] = []api.Move{} },
		"functions in another order":  func(c *api.Code) { slices.Reverse(c.Funcs) },
		"the blocks in another order": func(c *api.Code) { slices.Reverse(c.Funcs[0][1:]) },
		"very many blocks":            func(c *api.Code) { c.Funcs[0] = append(c.Funcs[0], make([][]api.Move, 1<<16)...) },
	} {
		c := lowered(t, name, tableT(), p)
		change(&c)
		isValid(t, name, tableT(), p, c, 0, false)
	}
	c := lowered(t, "lists that are nil or not", tableT(), p)
	c.Sigs[1].Params, c.Externs[1].Params = []int{}, []int{}
	isValid(t, "lists that are nil or not", tableT(), p, c, 0, true)
	c.Funcs[1] = nil
	isValid(t, "a function that nothing is wrong with, beside one that is wrong", tableT(), p, c, 0, true)
	isValid(t, "the one that is wrong", tableT(), p, c, 1, false)
}

// A frame too large: false, be the code right by all else that is asked of it.
func TestP14LargeFrames(t *testing.T) {
	table := aligned(tableT(), 8, 0)
	table.Args, table.ByRef = nil, 0
	for locals := range api.MaxLocals + 1 {
		// the frame has Out 64, copies from 64 to 576, cells from there on, and slots
		i := asked(0, slices.Repeat([]api.Arg{{Words: 8}}, 8))
		p := api.Program{Externs: []api.Sig{sig(0, 8, 8, 8, 8, 8, 8, 8, 8)}, Funcs: []api.Func{{Homes: slices.Repeat([]int{-1}, locals), Slots: slices.Repeat([]int{8}, 6), Blocks: [][]api.Ins{{i, gives()}}}}}
		slots := int64(576 + 8*locals)
		size := slots + 384
		begin := []api.Move{sp(-size), li(9, 0)}
		for at := int64(576); at < size; at += 8 {
			begin = append(begin, st(9, at, 8))
		}
		var moves []api.Move
		for n := range int64(64) {
			moves = append(moves, ld(9, slots+n%8*8, 8), st(9, 64+8*n, 8))
		}
		for n := range int64(8) {
			moves = append(moves, lea(9, 64+64*n), st(9, 8*n, 8))
		}
		c := coded(sig(0), [][]api.Move{append(begin, jump(1)), append(moves, exts(0), sp(size), ret())})
		c.Externs = p.Externs
		isValid(t, "a large frame", table, p, c, 0, size <= api.MaxFrame)
	}
}

// adding: a function of two words, whose locals are the registers 0, 1 and 2, and one result. Its frame by T has the cells 0, 8 and 16, Size 24, In 32.
func adding(t *testing.T) trial {
	p := api.Program{Funcs: []api.Func{{Params: words(2), Results: 1, Homes: []int{0, 1, 2}, Blocks: [][]api.Ins{{gives(0)}}}}}
	return tried(t, tableT(), p, []api.Move{sp(-24), li(2, 0), jump(1)}, []api.Move{sp(24), ret()})
}

// Operations: made the same way, of the same terms in the same order.
func TestP14Operations(t *testing.T) {
	for op := api.Add; op <= api.Same; op++ {
		k := adding(t).alike([]api.Ins{makes(op, 2, 0, 1), gives(2)}, reckon(op, 0, 0, 1), sp(24), ret())
		k.takes("by another register", put(1, 0, reckon(op, 3, 0, 1), mov(0, 3)))
		k.takes("by a cell", put(1, 0, reckon(op, 10, 0, 1), st(10, 16, 8), ld(0, 16, 8)))
		k.takes("of other registers that have the same", put(1, 0, mov(9, 0), mov(10, 1), reckon(op, 0, 9, 10)))
		k.refuses("turned about", put(1, 0, reckon(op, 0, 1, 0)))
		k.refuses("of the first one twice", put(1, 0, reckon(op, 0, 0, 0)))
		k.refuses("of the second one twice", put(1, 0, reckon(op, 0, 1, 1)))
		k.refuses("not at all", drop(1, 0))
		k.refuses("of what is unknown", put(1, 0, reckon(op, 0, 3, 4)))
		k.refuses("into another register", put(1, 0, reckon(op, 1, 0, 1)))
		for other := api.Add; other <= api.Same; other++ {
			if other != op {
				k.refuses("another operation", put(1, 0, reckon(other, 0, 0, 1)))
			}
		}
	}
}

// Nothing is reckoned: what only comes to the same is refused.
func TestP14Terms(t *testing.T) {
	sum := func(r, a, b int) api.Move { return reckon(api.Add, r, a, b) }
	k := adding(t).alike([]api.Ins{sets(2, 0), makes(api.Add, 2, 0, 2), gives(2)}, li(9, 0), sum(0, 0, 9), sp(24), ret())
	k.refuses("0 is not added", whole(1, sp(24), ret()))
	k.refuses("0 is added the other way", put(1, 1, sum(0, 9, 0)))
	k.refuses("0 is taken away", put(1, 1, reckon(api.Sub, 0, 0, 9)))
	k = adding(t).alike([]api.Ins{makes(api.Sub, 2, 0, 0), gives(2)}, reckon(api.Sub, 0, 0, 0), sp(24), ret())
	k.refuses("the number that it comes to", put(1, 0, li(0, 0)))
	k.refuses("of the other one", put(1, 0, reckon(api.Sub, 0, 1, 1)))
	k = adding(t).alike([]api.Ins{sets(2, 2), makes(api.Add, 2, 2, 2), gives(2)}, li(9, 2), sum(0, 9, 9), sp(24), ret())
	k.takes("of two registers that have the same number", put(1, 1, li(10, 2), sum(0, 9, 10)))
	k.refuses("the sum", whole(1, li(0, 4), sp(24), ret()))
	k.refuses("of other numbers", put(1, 1, li(10, 3), li(9, 1), sum(0, 9, 10)))
	k = adding(t).alike([]api.Ins{makes(api.Add, 2, 0, 1), makes(api.Add, 2, 2, 1), gives(2)}, sum(9, 0, 1), sum(0, 9, 1), sp(24), ret())
	k.refuses("the other sum first", put(1, 0, sum(9, 1, 1)), put(1, 1, sum(0, 0, 9)))
	k.refuses("one sum alone", drop(1, 1))
	k = adding(t).alike([]api.Ins{makes(api.Add, 2, 0, 1), makes(api.Mul, 2, 2, 2), gives(2)}, sum(9, 0, 1), reckon(api.Mul, 0, 9, 9), sp(24), ret())
	k.takes("the sum is made twice", put(1, 1, sum(10, 0, 1), reckon(api.Mul, 0, 9, 10)))
	k.refuses("the sum is made twice, once turned about", put(1, 1, sum(10, 1, 0), reckon(api.Mul, 0, 9, 10)))
	k = adding(t).alike([]api.Ins{copies(2, 0), copies(0, 1), copies(1, 2), gives(1)}, sp(24), ret())
	k.takes("moved about", add(1, 0, mov(9, 0), li(0, 5), mov(0, 9)))
	k.refuses("the other one", add(1, 0, mov(0, 1)))
	k = adding(t).alike([]api.Ins{sets(2, 0), gives(2)}, li(0, 0), sp(24), ret())
	k.refuses("what is unknown, less itself", put(1, 0, reckon(api.Sub, 0, 3, 3)))
	k.refuses("what is unknown", put(1, 0, mov(0, 3)))
	k.refuses("what a register had that is kept", put(1, 0, mov(0, 5)))
	k.refuses("an address", put(1, 0, lea(0, 0)))
	k.refuses("the return address", put(1, 0, ld(0, 24, 8)))
}

// Numbers: all of their bits.
func TestP14Numbers(t *testing.T) {
	for _, n := range []uint64{0, 1, 255, 1 << 31, 1 << 32, 1<<63 - 1, 1 << 63, 1<<64 - 2, 1<<64 - 1} {
		k := adding(t).alike([]api.Ins{sets(2, n), gives(2)}, li(0, int64(n)), sp(24), ret())
		for _, other := range []uint64{n + 1, n - 1, n ^ 1<<63, n ^ 1<<32, ^n} {
			k.refuses("another number", put(1, 0, li(0, int64(other))))
		}
		k = adding(t).alike([]api.Ins{{Op: api.Trap, N: n}}, stop(int64(n)))
		for _, other := range []uint64{n + 1, n - 1, n ^ 1<<63, n ^ 1<<32, ^n} {
			k.refuses("another number", put(1, 0, stop(int64(other))))
		}
	}
}

// seeing: the frame by T has the cells 0 and 8, slots at 16 and 32, the registers 5 and 6 at 40 and 48, Size 56.
func seeing(t *testing.T) trial {
	p := api.Program{Externs: []api.Sig{sig(0, 0), sig(0)}, Funcs: []api.Func{
		{Homes: []int{5, 6}, Slots: []int{2, 1}, Blocks: [][]api.Ins{{
			stores(0, 0, 0, 8), stores(1, 0, 8, 8), asked(0, local(1)), stores(0, 1, 0, 4), called(1, nil), asked(0, local(0)), gives(),
		}}},
		{Blocks: [][]api.Ins{{gives()}}},
		{Blocks: [][]api.Ins{{gives()}}},
	}}
	return tried(t, tableT(), p,
		[]api.Move{sp(-56), st(5, 40, 8), st(6, 48, 8), li(5, 0), li(6, 0), st(5, 16, 8), st(5, 24, 8), st(5, 32, 8), jump(1)},
		[]api.Move{st(5, 16, 8), st(6, 24, 8), mov(0, 6), exts(0), st(5, 32, 4), calls(1), mov(0, 5), exts(0), ld(5, 40, 8), ld(6, 48, 8), sp(56), ret()})
}

// What is seen: all of it, nothing else, in its order.
func TestP14Seen(t *testing.T) {
	k := seeing(t)
	for _, at := range []int{0, 1, 3, 4, 5, 7} {
		k.refuses("one thing is left out", drop(1, at))
		k.refuses("one thing twice", add(1, at, k.code[1][at]))
	}
	k.refuses("two stores in another order", swap(1, 0))
	k.takes("what is not seen in another order", swap(1, 1))
	k.refuses("a store behind a call", put(1, 1, mov(0, 6)), put(1, 2, exts(0)), put(1, 3, st(6, 24, 8)))
	k.refuses("a store ahead of a call", swap(1, 3))
	k.refuses("a store behind another call", swap(1, 4))
	k.refuses("two calls in another order", put(1, 5, mov(0, 5)), put(1, 6, exts(0)), put(1, 7, calls(1)))
	k.refuses("something else outside", put(1, 3, exts(1)))
	k.refuses("nothing outside is called so", put(1, 3, exts(2)))
	k.refuses("another function", put(1, 5, calls(2)))
	k.refuses("there is no such function", put(1, 5, calls(3)))
	k.refuses("a function in place of something outside", put(1, 7, calls(0)))
	k.refuses("something outside in place of a function", put(1, 5, exts(1)))
	for _, f := range extremes {
		k.refuses("no such function", put(1, 5, calls(f)))
		k.refuses("nothing of the kind outside", put(1, 3, exts(f)))
	}
	for _, more := range []api.Move{st(5, 16, 8), st(5, 32, 4), exts(0), exts(1), calls(1), calls(2)} {
		for at := range k.code[1] {
			k.refuses("something more", add(1, at, more))
		}
	}
	k.refuses("other bytes of the slot", put(1, 0, st(5, 24, 8)))
	k.refuses("another slot", put(1, 4, st(5, 16, 4)))
	k.refuses("another width", put(1, 4, st(5, 32, 8)))
	k.refuses("the upper half", put(1, 4, st(5, 36, 4)))
	k.refuses("another term", put(1, 0, st(6, 16, 8)))
	k.refuses("an argument that is another one", put(1, 2, mov(0, 5)))
	k.takes("the same term in another register", put(1, 0, mov(9, 5), st(9, 16, 8)))
}

// Call and Ext of the same number and signature are not the same.
func TestP14CallOrExt(t *testing.T) {
	one := api.Func{Blocks: [][]api.Ins{{gives()}}}
	p := api.Program{Externs: []api.Sig{sig(0), sig(0)}, Funcs: []api.Func{{Blocks: [][]api.Ins{{called(1, nil), asked(1, nil), gives()}}}, one}}
	k := tried(t, tableT(), p, []api.Move{sp(-8), jump(1)}, []api.Move{calls(1), exts(1), sp(8), ret()})
	k.refuses("Exts for Call", put(1, 0, exts(1)))
	k.refuses("Calls for Ext", put(1, 1, calls(1)))
	k.refuses("turned about", swap(1, 0))
}

// Depth: what Sp may do to it, and that all is counted by it.
func TestP14Depth(t *testing.T) {
	k := document(t)
	for _, by := range []int64{0, 1, 3, 8, 23, 24} {
		k.takes("up and down", add(0, 1, sp(by), sp(-by)))
		k.takes("up and down", add(1, 0, sp(by), sp(-by)))
		k.takes("down and up", add(0, 0, sp(-by), sp(by)))
		k.takes("down and up", add(1, 6, sp(-by), sp(by)))
	}
	for _, by := range []int64{25, 32, 1048576, 1048577, math.MaxInt64, math.MinInt64, math.MinInt64 + 1, 1 << 32} {
		k.refuses("above Size", add(0, 1, sp(by), sp(-by)))
		k.refuses("above Size", add(0, 0, sp(by), sp(-by)))
		k.refuses("above Size", add(1, 6, sp(by), sp(-by)))
		k.refuses("below the frame", add(0, 0, sp(-by), sp(by)))
	}
	for _, by := range []int64{1, 8, 1048576, 1048577} {
		k.refuses("below 0", add(0, 1, sp(-by), sp(by)))
		k.refuses("below 0", add(1, 0, sp(-by), sp(by)))
	}
	k.refuses("round about", add(0, 1, sp(math.MinInt64), sp(math.MinInt64)))
	k.takes("in pieces", put(0, 0, sp(-8), sp(-16)), put(1, 5, sp(20), sp(4)))
	k.refuses("too little", put(0, 0, sp(-16)))
	k.refuses("too much", put(0, 0, sp(-32)))
	k.refuses("not at all", drop(0, 0))
	k.refuses("not left", drop(1, 5))
	k.refuses("not left whole", put(1, 5, sp(16)))
	k.takes("counted from another depth", put(0, 1, sp(8), st(5, 8, 8), sp(-8)))
	k.refuses("counted from 0", put(0, 1, sp(8), st(5, 16, 8), sp(-8)))
	k.takes("a load from another depth", put(1, 0, sp(8), ld(10, 0, 8), sp(-8)))
	k.takes("a load from an odd depth", put(1, 0, sp(5), ld(10, 3, 8), sp(-5)))
	k.refuses("a cell that is none from there", put(1, 0, sp(5), ld(10, 8, 8), sp(-5)))
	k.takes("what was kept comes back from another depth", put(1, 4, sp(16), ld(5, 0, 8)), put(1, 6, sp(8)))
}

// Lea, Ld and St: how far they may reach.
func TestP14Reach(t *testing.T) {
	k := document(t)
	for _, n := range []int64{0, 1, 8, 24, 32, 4096, 1048575, 1048576} {
		k.takes("an address", add(0, 1, lea(9, n)))
		k.takes("an address", add(0, 0, lea(9, n)))
		k.takes("an address", add(1, 6, lea(9, n)))
	}
	for _, n := range []int64{-1, -8, 1048577, math.MinInt64, math.MaxInt64, 1 << 32} {
		k.refuses("an address too far away", add(0, 0, lea(9, n)))
		k.refuses("an address too far away", add(1, 0, lea(9, n)))
		k.refuses("an address too far away", add(1, 6, lea(9, n)))
	}
	for _, n := range []int64{0, 8, 16, 24} {
		k.takes("a load within", add(1, 0, ld(9, n, 8)))
	}
	k.takes("the return address from the frame's upper end", add(0, 0, ld(9, 0, 8)))
	for _, n := range []int64{-8, -1, 32, 40, 1048576, 1048584, math.MinInt64, math.MaxInt64, math.MaxInt64 - 7, math.MaxInt64 - 31, 1 << 32} {
		k.refuses("a load beyond", add(1, 0, ld(9, n, 8)))
		k.refuses("a store beyond", add(1, 0, st(9, n, 8)))
		k.refuses("a load beyond, in block 0", add(0, 1, ld(9, n, 8)))
		k.refuses("a store beyond, in block 0", add(0, 1, st(9, n, 8)))
	}
	k.refuses("a load below SP", add(1, 0, sp(16), ld(9, -8, 8), sp(-16)))
	k.refuses("a store below SP", add(1, 0, sp(16), st(9, -16, 8), sp(-16)))
	k.refuses("a load beyond, from the frame's upper end", add(0, 0, ld(9, 8, 8)))
	for _, w := range append(extremes, 0, 1, 2, 3, 4, 5, 6, 7, 9, 16) {
		k.refuses("a cell of another width", add(1, 0, ld(9, 0, w)))
		k.refuses("a cell of another width", add(1, 0, st(9, 0, w)))
		k.refuses("a cell of another width, in block 0", add(0, 1, ld(9, 0, w)))
	}
	for _, n := range []int64{1, 2, 4, 7, 12, 20} {
		k.refuses("no cell", add(1, 0, ld(9, n, 8)))
		k.refuses("no cell", add(1, 0, st(9, n, 8)))
	}
}

// The area that the caller left may be read and written, but nothing above it.
func TestP14OwnArea(t *testing.T) {
	// by T the frame has the cells 0 to 48, Size 56, In 64, and the area 8 bytes; by U Size is 48, In too, the area 24
	p := api.Program{Funcs: []api.Func{{Params: words(5), Homes: slices.Repeat([]int{-1}, 6), Blocks: [][]api.Ins{{gives()}}}}}
	for _, x := range []struct {
		table          api.Table
		size, in, area int64
	}{{tableT(), 56, 64, 8}, {tableU(), 48, 48, 24}} {
		temp := x.table.Temps[0]
		begin := []api.Move{sp(-x.size), st(0, 0, 8), st(1, 8, 8), st(2, 16, 8), st(3, 24, 8), ld(temp, x.in+x.area-8, 8), st(temp, 32, 8), li(temp, 0), st(temp, 40, 8), jump(1)}
		k := tried(t, x.table, p, begin, []api.Move{sp(x.size), ret()})
		for at := x.in; at < x.in+x.area; at += 8 {
			k.takes("a load from the area", add(1, 0, ld(temp, at, 8)))
			k.takes("a store into the area", add(1, 0, st(temp, at, 8)))
			k.takes("a store into the area, behind what was there", add(0, 6, st(temp, at, 8)))
			k.refuses("a piece of the area", add(1, 0, ld(temp, at, 4)))
		}
		for _, at := range []int64{x.in + x.area, x.in + x.area - 4, x.in + x.area - 1} {
			for _, w := range []int{1, 2, 4, 8} {
				k.refuses("a load above the area", add(1, 0, ld(temp, at, w)))
				k.refuses("a store above the area", add(1, 0, st(temp, at, w)))
			}
			k.refuses("a load above the area, in block 0", add(0, 1, ld(temp, at, 8)))
		}
		k.takes("an argument is written over when it was read", add(0, 8, st(temp, x.in+x.area-8, 8)))
		k.refuses("an argument is written over ahead of that", add(0, 5, st(temp, x.in+x.area-8, 8)))
	}
}
