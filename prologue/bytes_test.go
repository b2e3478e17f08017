package prologue_test

import (
	"math"
	"reflect"
	"slices"
	"strings"
	"testing"

	"prologue/api"
	"prologue/plain"
	"prologue/prologue"
)

// smallBytes: the document's program, of one function that does nothing.
const smallBytes = "F1\x00\x01\x00\x00\x00\x00\x01\x01\x10\x00"

func small() api.Program {
	return api.Program{Funcs: []api.Func{{Blocks: [][]api.Ins{{{Op: api.Return}}}}}}
}

func isEncoded(t *testing.T, p api.Program, want string) {
	t.Helper()
	if s, err := prologue.Encode(p); s != want || err != nil {
		t.Errorf("Encode(%+v) = %q, %v, want %q", p, s, err, want)
	}
	if q, err := prologue.Decode(want); !sameProgram(p, q) || err != nil {
		t.Errorf("Decode(%q) = %+v, %v, want %+v", want, q, err, p)
	}
}

func isTooLarge(t *testing.T, what string, p api.Program) {
	t.Helper()
	if s, err := prologue.Encode(p); s != "" || !placeless(err, api.ErrSize) {
		t.Errorf("%s: Encode = %q, %v", what, s, err)
	}
}

func isNoProgram(t *testing.T, s string, e api.Errno, at int) {
	t.Helper()
	p, err := prologue.Decode(s)
	bad, ok := err.(*api.Bad)
	if !ok || *bad != (api.Bad{Err: e, Func: -1, Block: -1, At: at}) || p.Funcs != nil || p.Externs != nil {
		t.Errorf("Decode(%q) = %+v, %+v, want %v at %d", s, p, err, e, at)
	}
}

func TestP6Example(t *testing.T) {
	isEncoded(t, small(), smallBytes)
	for n := range len(smallBytes) {
		isNoProgram(t, smallBytes[:n], api.ErrBytes, n)
	}
	for _, more := range []string{"\x00", "F", "\xff", smallBytes, strings.Repeat("\x00", api.MaxBytes-len(smallBytes))} {
		isNoProgram(t, smallBytes+more, api.ErrBytes, len(smallBytes))
	}
}

// alone: a program whose only block has the instruction alone, and the bytes ahead of it.
func alone(i api.Ins) api.Program {
	return api.Program{Funcs: []api.Func{{Blocks: [][]api.Ins{{i}}}}}
}

const aloneBytes = "F1\x00\x01\x00\x00\x00\x00\x01\x01"

// forms: each instruction with another number in each field that it needs, and its bytes.
var forms = []struct {
	i     api.Ins
	bytes string
}{
	{api.Ins{Op: api.Const, D: 255, N: 0x0123456789ABCDEF}, "\x01\xff\x01\x23\x45\x67\x89\xab\xcd\xef"},
	{api.Ins{Op: api.Copy, D: 4, A: 5}, "\x02\x04\x05"},
	{api.Ins{Op: api.Add, D: 4, A: 5, B: 6}, "\x03\x04\x05\x06"},
	{api.Ins{Op: api.Sub, D: 4, A: 5, B: 6}, "\x04\x04\x05\x06"},
	{api.Ins{Op: api.Mul, D: 4, A: 5, B: 6}, "\x05\x04\x05\x06"},
	{api.Ins{Op: api.And, D: 4, A: 5, B: 6}, "\x06\x04\x05\x06"},
	{api.Ins{Op: api.Xor, D: 4, A: 5, B: 6}, "\x07\x04\x05\x06"},
	{api.Ins{Op: api.Less, D: 4, A: 5, B: 6}, "\x08\x04\x05\x06"},
	{api.Ins{Op: api.Same, D: 4, A: 5, B: 6}, "\x09\x04\x05\x06"},
	{api.Ins{Op: api.Load, D: 4, A: 5, B: 6, N: 255}, "\x0a\x04\x05\x06\xff"},
	{api.Ins{Op: api.Store, D: 4, A: 5, B: 6, N: 7}, "\x0b\x04\x05\x06\x07"},
	{api.Ins{Op: api.Call, F: 9, Args: []api.Arg{{Words: 8, From: 255}, {From: 3}}, Outs: []int{11, 0, 255, 11}}, "\x0c\x09\x02\x08\xff\x00\x03\x04\x0b\x00\xff\x0b"},
	{api.Ins{Op: api.Ext, F: 255, Outs: []int{2}}, "\x0d\xff\x00\x01\x02"},
	{api.Ins{Op: api.Goto, A: 200}, "\x0e\xc8"},
	{api.Ins{Op: api.If, D: 4, A: 5, B: 6}, "\x0f\x04\x05\x06"},
	{api.Ins{Op: api.Return, Outs: []int{3, 2}}, "\x10\x02\x03\x02"},
	{api.Ins{Op: api.Tail, F: 7, Args: []api.Arg{{Words: 1, From: 2}}}, "\x11\x07\x01\x01\x02"},
	{api.Ins{Op: api.Trap, N: 1<<63 + 1}, "\x12\x80\x00\x00\x00\x00\x00\x00\x01"},
}

func TestP6Instructions(t *testing.T) {
	for k, x := range forms {
		if x.i.Op != k+1 {
			t.Fatalf("the form %d is of %d", k, x.i.Op)
		}
		isEncoded(t, alone(x.i), aloneBytes+x.bytes)
		isNoProgram(t, aloneBytes+x.bytes+"\x00", api.ErrBytes, len(aloneBytes+x.bytes))
		for n := range len(x.bytes) {
			isNoProgram(t, aloneBytes+x.bytes[:n], api.ErrBytes, len(aloneBytes)+n)
		}
	}
}

// A field that the instruction does not need is refused, a list of anything too; one that it needs may be 0.
func TestP6SpareFields(t *testing.T) {
	needs := []string{"", "DN", "DA", "DAB", "DAB", "DAB", "DAB", "DAB", "DAB", "DAB", "DABN", "DABN", "FXO", "FXO", "A", "DAB", "O", "FX", "N"}
	for op := api.Const; op <= api.Trap; op++ {
		if _, err := prologue.Encode(alone(api.Ins{Op: op})); err != nil {
			t.Errorf("%d with nothing: %v", op, err)
		}
		for field, fill := range map[string]func(i *api.Ins, n int){
			"D": func(i *api.Ins, n int) { i.D = n },
			"A": func(i *api.Ins, n int) { i.A = n },
			"B": func(i *api.Ins, n int) { i.B = n },
			"N": func(i *api.Ins, n int) { i.N = uint64(n) },
			"F": func(i *api.Ins, n int) { i.F = n },
			"X": func(i *api.Ins, n int) { i.Args = make([]api.Arg, n) },
			"O": func(i *api.Ins, n int) { i.Outs = make([]int, n) },
		} {
			i := api.Ins{Op: op}
			fill(&i, 1)
			if !strings.Contains(needs[op], field) {
				isTooLarge(t, field, alone(i))
				f := plain.CheckProgram(tableT(), alone(i))
				if f != (plain.Fault{E: int(api.ErrFunc), Func: 0, Block: 0, At: 0}) {
					t.Errorf("%d with %s: CheckProgram %+v", op, field, f)
				}
			} else if _, err := prologue.Encode(alone(i)); err != nil {
				t.Errorf("%d with %s: %v", op, field, err)
			}
		}
	}
}

// bound of a number: what it is asked of, how a program with the number n is made, from where to where it may be.
type bound struct {
	name        string
	make        func(n int) api.Program
	least, most int
}

func inFunc(f api.Func) api.Program {
	if f.Blocks == nil {
		f.Blocks = small().Funcs[0].Blocks
	}
	return api.Program{Funcs: []api.Func{f}}
}

func outside(s api.Sig) api.Program {
	p := small()
	p.Externs = []api.Sig{s}
	return p
}

// instructions: so many that need nothing.
func instructions(n int) []api.Ins {
	list := make([]api.Ins, n)
	for k := range list {
		list[k] = api.Ins{Op: api.Return}
	}
	return list
}

// length of a list that is made of a wrong number, too.
func length(n int) int { return min(max(n, 0), 1<<16) }

var bounds = []bound{
	{"functions", func(n int) api.Program {
		p := api.Program{}
		for range length(n) {
			p.Funcs = append(p.Funcs, small().Funcs[0])
		}
		return p
	}, 1, 8},
	{"externs", func(n int) api.Program { return api.Program{Funcs: small().Funcs, Externs: make([]api.Sig, length(n))} }, 0, 4},
	{"parameters of externs", func(n int) api.Program { return outside(api.Sig{Params: make([]int, length(n))}) }, 0, 8},
	{"their words", func(n int) api.Program { return outside(api.Sig{Params: []int{0, n}}) }, 0, 8},
	{"results of externs", func(n int) api.Program { return outside(api.Sig{Results: n}) }, 0, 4},
	{"parameters", func(n int) api.Program { return inFunc(api.Func{Params: make([]api.Param, length(n))}) }, 0, 8},
	{"words", func(n int) api.Program { return inFunc(api.Func{Params: []api.Param{{}, {Words: n}}}) }, 0, 8},
	{"to", func(n int) api.Program { return inFunc(api.Func{Params: []api.Param{{}, {To: n}}}) }, 0, 255},
	{"results", func(n int) api.Program { return inFunc(api.Func{Results: n}) }, 0, 4},
	{"locals", func(n int) api.Program { return inFunc(api.Func{Homes: make([]int, length(n))}) }, 0, 12},
	{"homes", func(n int) api.Program { return inFunc(api.Func{Homes: []int{3, n}}) }, -1, 15},
	{"slots", func(n int) api.Program { return inFunc(api.Func{Slots: slices.Repeat([]int{1}, length(n))}) }, 0, 6},
	{"words of slots", func(n int) api.Program { return inFunc(api.Func{Slots: []int{1, n}}) }, 1, 8},
	{"blocks", func(n int) api.Program {
		return inFunc(api.Func{Blocks: append([][]api.Ins{}, slices.Repeat([][]api.Ins{instructions(1)}, length(n))...)})
	}, 1, 12},
	{"instructions", func(n int) api.Program { return inFunc(api.Func{Blocks: [][]api.Ins{instructions(length(n))}}) }, 1, 24},
	{"op", func(n int) api.Program { return alone(api.Ins{Op: n}) }, 1, 18},
	{"D", func(n int) api.Program { return alone(api.Ins{Op: api.Const, D: n}) }, 0, 255},
	{"A", func(n int) api.Program { return alone(api.Ins{Op: api.Goto, A: n}) }, 0, 255},
	{"B", func(n int) api.Program { return alone(api.Ins{Op: api.If, B: n}) }, 0, 255},
	{"N of Load", func(n int) api.Program { return alone(api.Ins{Op: api.Load, N: uint64(n)}) }, 0, 255},
	{"N of Store", func(n int) api.Program { return alone(api.Ins{Op: api.Store, N: uint64(n)}) }, 0, 255},
	{"N of Const", func(n int) api.Program { return alone(api.Ins{Op: api.Const, N: uint64(n)}) }, math.MinInt, math.MaxInt},
	{"N of Trap", func(n int) api.Program { return alone(api.Ins{Op: api.Trap, N: uint64(n)}) }, math.MinInt, math.MaxInt},
	{"F of Call", func(n int) api.Program { return alone(api.Ins{Op: api.Call, F: n}) }, 0, 255},
	{"F of Tail", func(n int) api.Program { return alone(api.Ins{Op: api.Tail, F: n}) }, 0, 255},
	{"args", func(n int) api.Program { return alone(api.Ins{Op: api.Ext, Args: make([]api.Arg, length(n))}) }, 0, 8},
	{"words of args", func(n int) api.Program { return alone(api.Ins{Op: api.Ext, Args: []api.Arg{{}, {Words: n}}}) }, 0, 8},
	{"from", func(n int) api.Program { return alone(api.Ins{Op: api.Tail, Args: []api.Arg{{}, {From: n}}}) }, 0, 255},
	{"outs of Return", func(n int) api.Program { return alone(api.Ins{Op: api.Return, Outs: make([]int, length(n))}) }, 0, 4},
	{"outs of Call", func(n int) api.Program { return alone(api.Ins{Op: api.Call, Outs: make([]int, length(n))}) }, 0, 4},
	{"one of outs", func(n int) api.Program { return alone(api.Ins{Op: api.Return, Outs: []int{0, n}}) }, 0, 255},
}

func TestP6Bounds(t *testing.T) {
	for _, b := range bounds {
		all := []int{math.MinInt, math.MinInt + 255, -1 << 32, -256, -255, 127, 128, 254, 255, 256, 257, 511, 1 << 32, 1<<32 + 1, math.MaxInt}
		for n := -3; n < 28; n++ {
			all = append(all, n)
		}
		for _, n := range all {
			p := b.make(n)
			if n < 0 && b.least == 0 && sameProgram(p, b.make(0)) {
				continue // there are no lists of fewer than 0
			}
			if n < b.least || n > b.most {
				isTooLarge(t, b.name, p)
				continue
			}
			s, err := prologue.Encode(p)
			if err != nil {
				t.Errorf("%s %d: %v", b.name, n, err)
			}
			isEncoded(t, p, s)
		}
	}
}

// part of a program's bytes: a byte within bounds; with each: a list that has so many of these parts.
type part struct {
	least, most int
	each        func() []part
	home, op    bool
}

func list(least, most int, each ...part) part {
	return part{least: least, most: most, each: func() []part { return each }}
}

var (
	byteAny, byteWords, byteResults = part{most: 255}, part{most: 8}, part{most: 4}

	partArgs  = list(0, 8, byteWords, byteAny)
	partOuts  = list(0, 4, byteAny)
	partFunc  = []part{partArgs, byteResults, list(0, 12, part{least: -1, most: 15, home: true}), list(0, 6, part{least: 1, most: 8}), list(1, 12, list(1, 24, part{least: 1, most: 18, op: true}))}
	partWhole = append([]part{{least: 'F', most: 'F'}, {least: '1', most: '1'}, list(0, 4, list(0, 8, byteWords), byteResults)}, list(1, 8, partFunc...))
)

func partsOf(op int) []part {
	var l []part
	for _, field := range []string{"dn", "da", "dab", "dab", "dab", "dab", "dab", "dab", "dab", "dabb", "dabb", "fxo", "fxo", "a", "dab", "o", "fx", "n"}[op-1] {
		switch field {
		case 'n':
			l = append(l, slices.Repeat([]part{byteAny}, 8)...)
		case 'x':
			l = append(l, partArgs)
		case 'o':
			l = append(l, partOuts)
		default:
			l = append(l, byteAny)
		}
	}
	return l
}

// slowPlace: how many numbers were gone through, and whether they are these parts. Where they are not, it is the place of the first that is out of bounds.
func slowPlace(s []int, at int, parts []part) (int, bool) {
	ok := true
	for _, x := range parts {
		if at >= len(s) {
			return at, false
		}
		n := s[at]
		if x.home && n == 255 {
			n = -1
		}
		if n < x.least || n > x.most {
			return at, false
		}
		at++
		var inner []part
		if x.op {
			inner = partsOf(n)
		} else if x.each != nil {
			inner = slices.Repeat(x.each(), n)
		}
		if at, ok = slowPlace(s, at, inner); !ok {
			return at, false
		}
	}
	return at, true
}

// slowDecode: the place that Decode tells of ErrBytes; -1, if it is a program.
func slowDecode(s string) int {
	var l []int
	for _, b := range []byte(s) {
		l = append(l, int(b))
	}
	at, ok := slowPlace(l, 0, partWhole)
	if ok && at == len(l) {
		return -1
	}
	return at
}

// slowEncode: the numbers that are to be written, whether they are within their bounds or not.
func slowEncode(p api.Program) []int {
	l := []int{70, 49, len(p.Externs)}
	for _, s := range p.Externs {
		l = append(append(append(l, len(s.Params)), s.Params...), s.Results)
	}
	l = append(l, len(p.Funcs))
	for _, f := range p.Funcs {
		l = append(l, len(f.Params))
		for _, x := range f.Params {
			l = append(l, x.Words, x.To)
		}
		l = append(l, f.Results, len(f.Homes))
		for _, r := range f.Homes {
			switch r { // 255 stands for -1, and not for itself
			case -1:
				r = 255
			case 255:
				r = 1000
			}
			l = append(l, r)
		}
		l = append(append(append(l, len(f.Slots)), f.Slots...), len(f.Blocks))
		for _, b := range f.Blocks {
			l = append(l, len(b))
			for _, i := range b {
				l = append(l, slowIns(i)...)
			}
		}
	}
	return l
}

// slowIns: a number that no byte has stands for what is not needed and there.
func slowIns(i api.Ins) []int {
	l := []int{i.Op}
	if i.Op < api.Const || i.Op > api.Trap {
		return l
	}
	fields := " " + []string{"dn", "da", "dab", "dab", "dab", "dab", "dab", "dab", "dab", "dabb", "dabb", "fxo", "fxo", "a", "dab", "o", "fx", "n"}[i.Op-1]
	if !strings.Contains(fields, "d") && i.D != 0 || !strings.Contains(fields, "a") && i.A != 0 || !strings.Contains(fields, "b") && i.B != 0 ||
		!strings.Contains(fields, "n") && !strings.Contains(fields, "bb") && i.N != 0 ||
		!strings.Contains(fields, "f") && i.F != 0 || !strings.Contains(fields, "x") && len(i.Args) > 0 || !strings.Contains(fields, "o") && len(i.Outs) > 0 {
		return []int{1000}
	}
	for k, field := range fields {
		switch {
		case field == 'd':
			l = append(l, i.D)
		case field == 'a':
			l = append(l, i.A)
		case field == 'b' && fields[k-1] == 'b':
			l = append(l, int(i.N))
		case field == 'b':
			l = append(l, i.B)
		case field == 'n':
			for shift := 56; shift >= 0; shift -= 8 {
				l = append(l, int(i.N>>shift)&255)
			}
		case field == 'f':
			l = append(l, i.F)
		case field == 'x':
			l = append(l, len(i.Args))
			for _, x := range i.Args {
				l = append(l, x.Words, x.From)
			}
		case field == 'o':
			l = append(append(l, len(i.Outs)), i.Outs...)
		}
	}
	return l
}

func asBytes(l []int) string {
	var b []byte
	for _, n := range l {
		b = append(b, byte(n))
	}
	return string(b)
}

// sameAsSlow: Encode and the slow writer agree, and Decode gives the program back.
func sameAsSlow(t *testing.T, p api.Program) {
	t.Helper()
	l := slowEncode(p)
	at, ok := slowPlace(l, 0, partWhole)
	if !ok || at != len(l) || len(l) > api.MaxBytes {
		isTooLarge(t, "a spoilt program", p)
		return
	}
	isEncoded(t, p, asBytes(l))
}

func decodesAsSlow(t *testing.T, s string) {
	t.Helper()
	if len(s) > api.MaxBytes {
		isNoProgram(t, s, api.ErrSize, 0)
		return
	}
	if at := slowDecode(s); at >= 0 {
		isNoProgram(t, s, api.ErrBytes, at)
		return
	}
	p, err := prologue.Decode(s)
	if err != nil {
		t.Fatalf("Decode(%q): %v", s, err)
	}
	if again, err := prologue.Encode(p); again != s || err != nil {
		t.Errorf("behind Decode of %q: %q, %v", s, again, err)
	}
}

func TestP6ManyPrograms(t *testing.T) {
	for seed := range int64(100) {
		p := makeProgram(seed, tableT())
		sameAsSlow(t, p)
		m := newMaker(seed)
		for range 20 {
			q := copied(p)
			m.spoil(&q)
			sameAsSlow(t, q)
		}
	}
}

// Each byte of some programs becomes each other one, and each piece of them is cut out.
func TestP6EachByte(t *testing.T) {
	for _, s := range []string{smallBytes, asBytes(slowEncode(eachInstruction()))} {
		decodesAsSlow(t, s)
		for at := range len(s) {
			for b := range 256 {
				decodesAsSlow(t, s[:at]+string([]byte{byte(b)})+s[at+1:])
			}
			decodesAsSlow(t, s[:at])
			decodesAsSlow(t, s[:at]+s[at+1:])
			decodesAsSlow(t, s[:at]+"\x01"+s[at:])
		}
	}
}

// eachInstruction: a program (that may not be) with all forms of instructions.
func eachInstruction() api.Program {
	p := api.Program{
		Externs: []api.Sig{{Params: []int{0, 8, 1}, Results: 4}, {}},
		Funcs: []api.Func{
			{Params: []api.Param{{To: 255}, {Words: 8, To: 1}}, Results: 3, Homes: []int{-1, 15, 0}, Slots: []int{8, 1}},
			small().Funcs[0],
		},
	}
	var all []api.Ins
	for _, x := range forms {
		all = append(all, x.i)
	}
	p.Funcs[0].Blocks = [][]api.Ins{all[:7], all[7:8], all[8:]}
	return p
}

// sized: a program of just so many bytes, of instructions Const (10), Goto (2) and Copy (3).
func sized(t *testing.T, bytes int) api.Program {
	p := api.Program{}
	for range api.MaxFuncs {
		p.Funcs = append(p.Funcs, api.Func{Blocks: make([][]api.Ins, api.MaxBlocks)})
	}
	left := bytes - 4 - 5*api.MaxFuncs
	slots := api.MaxFuncs * api.MaxBlocks
	for f := range p.Funcs {
		for b := range p.Funcs[f].Blocks {
			// each block has its count and one Goto at least
			list := []api.Ins{{Op: api.Goto}}
			left -= 3
			slots--
			for left >= 3*slots+10 && len(list) < 24 {
				list = append(list, api.Ins{Op: api.Const})
				left -= 10
			}
			for left >= 3*slots+3 && len(list) < 24 {
				list = append(list, api.Ins{Op: api.Copy})
				left -= 3
			}
			for left >= 3*slots+2 && len(list) < 24 {
				list = append(list, api.Ins{Op: api.Goto})
				left -= 2
			}
			p.Funcs[f].Blocks[b] = list
		}
	}
	if left == 1 { // a Goto becomes a Copy
		p.Funcs[7].Blocks[11][0] = api.Ins{Op: api.Copy}
		left--
	}
	if left != 0 {
		t.Fatalf("%d bytes are left of %d", left, bytes)
	}
	return p
}

func TestP6MaxBytes(t *testing.T) {
	for n := api.MaxBytes - 12; n <= api.MaxBytes+12; n++ {
		p := sized(t, n)
		s := asBytes(slowEncode(p))
		if len(s) != n {
			t.Fatalf("%d bytes, want %d", len(s), n)
		}
		if n > api.MaxBytes {
			isTooLarge(t, "more than MaxBytes", p)
			isNoProgram(t, s, api.ErrSize, 0)
			continue
		}
		isEncoded(t, p, s)
	}
	isNoProgram(t, strings.Repeat("\x00", api.MaxBytes), api.ErrBytes, 0)
	isNoProgram(t, strings.Repeat("F", api.MaxBytes), api.ErrBytes, 1)
	isNoProgram(t, strings.Repeat("\x00", api.MaxBytes+1), api.ErrSize, 0)
	isNoProgram(t, strings.Repeat("F", 1<<20), api.ErrSize, 0)
	isNoProgram(t, "", api.ErrBytes, 0)
}

// Nothing that is handed in is written into; lists that come out are apart from one another (P2).
func TestP6Memory(t *testing.T) {
	p := copied(eachInstruction())
	kept := untouched(p)
	s, err := prologue.Encode(p)
	if err != nil || !kept() {
		t.Errorf("Encode: %v; untouched: %v", err, kept())
	}
	q, _ := prologue.Decode(s)
	again, _ := prologue.Decode(s)
	written := 0
	for _, v := range leaves(reflect.ValueOf(&q).Elem()) {
		if v.Kind() == reflect.Slice {
			room := v.Slice(0, v.Cap())
			for k := range room.Len() {
				if room.Index(k).Kind() == reflect.Int {
					written++
					room.Index(k).SetInt(int64(1000 + written))
				}
			}
		}
	}
	if !sameProgram(p, again) {
		t.Error("what is written into one program is seen in another one")
	}
	seen := map[int64]int{}
	for _, v := range leaves(reflect.ValueOf(&q).Elem()) {
		if v.Kind() == reflect.Int && v.Int() > 1000 {
			seen[v.Int()]++
			if seen[v.Int()] > 1 {
				t.Errorf("two lists share the number %d", v.Int())
			}
		}
	}
	if len(seen) == 0 {
		t.Error("nothing was written")
	}
}

func FuzzDecode(f *testing.F) {
	f.Add(smallBytes)
	f.Add(asBytes(slowEncode(eachInstruction())))
	f.Add("")
	f.Add("F1\x01\x01\x09")
	f.Fuzz(decodesAsSlow)
}
