package prologue_test

import (
	"reflect"
	"strings"
	"testing"

	"prologue/api"
	"prologue/plain"
	"prologue/prologue"
)

func encoded(t *testing.T, p api.Program) string {
	t.Helper()
	s, err := prologue.Encode(p)
	if err != nil {
		t.Fatal(err)
	}
	return s
}

func isNotBuilt(t *testing.T, name, text, program string, want plain.Fault) {
	t.Helper()
	if c, f := plain.Build(text, program); f != want || !reflect.DeepEqual(c, api.Code{}) {
		t.Errorf("%s: Build = %+v, %+v, want %+v", name, c, f, want)
	}
}

// at: an error with a place in a text or in bytes.
func at(e api.Errno, place int) plain.Fault {
	return plain.Fault{E: int(e), Func: -1, Block: -1, At: place}
}

// Each error, and which comes first.
func TestP15Errors(t *testing.T) {
	right := prologue.Print(tableT())
	wrong := strings.Replace(right, "align 16", "align 24", 1)
	p := adder()
	p.Funcs[0].Homes[0] = 9 // one of Temps
	badProgram := encoded(t, p)
	large := tableU()
	large.Args = nil
	q := crowded(60)
	for _, x := range []struct {
		name, text, bytes string
		want              plain.Fault
	}{
		{"a text that is too long", strings.Repeat(" ", api.MaxText+1), "", at(api.ErrSize, 0)},
		{"no text", "", "", at(api.ErrText, 0)},
		{"a text that ends", "regs", badProgram, at(api.ErrText, 4)},
		{"a byte that begins nothing", right + "$", "F", at(api.ErrText, len(right))},
		{"a table that may not be", wrong, encoded(t, adder()), at(api.ErrTable, -1)},
		{"a table ahead of bytes", wrong, "", at(api.ErrTable, -1)},
		{"a table ahead of bytes that are too many", wrong, strings.Repeat("F", 4001), at(api.ErrTable, -1)},
		{"a table ahead of a program", wrong, badProgram, at(api.ErrTable, -1)},
		{"no bytes", right, "", at(api.ErrBytes, 0)},
		{"too many bytes", right, strings.Repeat("F", 4001), at(api.ErrSize, 0)},
		{"bytes that end", right, "F", at(api.ErrBytes, 1)},
		{"bytes ahead of what is wrong with the program", right, badProgram[:len(badProgram)-1], at(api.ErrBytes, len(badProgram)-1)},
		{"a byte behind a program", right, encoded(t, adder()) + "F", at(api.ErrBytes, len(encoded(t, adder())))},
		{"a home", right, badProgram, badFunc(0, -1, -1)},
		{"an instruction", right, encoded(t, api.Program{Funcs: []api.Func{small().Funcs[0], {Blocks: [][]api.Ins{{goes(0)}, {goes(2)}}}}}), badFunc(1, 1, 0)},
		{"a frame too large", prologue.Print(large), encoded(t, q), tooLarge(1)},
	} {
		isNotBuilt(t, x.name, x.text, x.bytes, x.want)
	}
	if _, err := prologue.Build(wrong, ""); !placeless(err, api.ErrTable) {
		t.Errorf("a table that may not be: %#v", err)
	}
}

// isBuilt: the code is what Lower makes of the program, Validate takes it, and it does what the program does.
func isBuilt(t *testing.T, name string, table api.Table, p api.Program, s start) {
	t.Helper()
	c, err := prologue.Build(prologue.Print(table), encoded(t, p))
	want, _ := prologue.Lower(table, p)
	if err != nil || !sameCode(c, want) {
		t.Fatalf("%s: Build = %+v, %v, want %+v", name, c, err, want)
	}
	for f := range p.Funcs {
		if ok, err := prologue.Validate(table, p, c, f); !ok || err != nil {
			t.Errorf("%s: Validate = %v, %v of the function %d", name, ok, err, f)
		}
	}
	agree(t, name, table, p, c, s)
}

func TestP15Built(t *testing.T) {
	c, err := prologue.Build("# T\n"+prologue.Print(tableT()), "F1\x00\x01\x00\x00\x00\x00\x01\x01\x10\x00")
	if err != nil || !sameCode(c, coded(sig(0), [][]api.Move{{sp(-8), jump(1)}, {sp(8), ret()}})) {
		t.Errorf("the document's bytes: %+v, %v", c, err)
	}
	for _, table := range conventions() {
		isBuilt(t, "a function that does nothing", table, small(), start{stack: 1024, steps: 9})
		p := adder()
		p.Funcs[0].Homes = homings(table, 2)[3]
		isBuilt(t, "the adder", table, p, start{args: []uint64{40, 2}, stack: 1024, steps: 9})
		isBuilt(t, "tails", table, fibonacci(homings(table, 10)[3], 3), start{args: []uint64{9, 0, 1, 2, 3, 4}, stack: 4096, steps: 500})
	}
}

// Programs that were made up, as bytes: they are built, or Lower's error is told.
func TestP15ManyPrograms(t *testing.T) {
	built := 0
	for seed := range int64(300) {
		m := newMaker(seed + 1<<34)
		table := makeTable(m)
		p := makeProgram(seed, table)
		bytes, err := prologue.Encode(p)
		if err != nil {
			continue
		}
		if _, fault := plain.Lower(table, p); fault != fine {
			isNotBuilt(t, "made up", prologue.Print(table), bytes, fault)
			continue
		}
		f := m.Intn(len(p.Funcs))
		isBuilt(t, "made up", table, p, start{f, m.wordsFor(sigOf(p.Funcs[f])), []uint64{1, 0, 2}, 4096, 100})
		built++
	}
	if built < 200 {
		t.Errorf("%d programs were built", built)
	}
}

// Bytes of which some were changed: Decode's error, or Lower's, or code.
func TestP15SpoiltBytes(t *testing.T) {
	text := prologue.Print(tableU())
	counts := map[int]int{}
	for seed := range int64(300) {
		m := newMaker(seed + 1<<35)
		bytes, err := prologue.Encode(makeProgram(seed, tableU()))
		if err != nil {
			continue
		}
		for range 10 {
			spoilt := []byte(bytes)
			spoilt[m.Intn(len(spoilt))] = byte(m.Intn(20))
			p, want := plain.Decode(string(spoilt))
			if want == fine {
				_, want = plain.Lower(tableU(), p)
			}
			c, fault := plain.Build(text, string(spoilt))
			if fault != want || (fault == fine) != (len(c.Funcs) > 0) {
				t.Fatalf("seed %d: Build = %+v, %+v, want %+v", seed, c, fault, want)
			}
			counts[fault.E]++
		}
	}
	if counts[0] < 100 || counts[int(api.ErrBytes)] < 100 || counts[int(api.ErrFunc)] < 100 {
		t.Errorf("too few of a kind: %v", counts)
	}
}

// Two answers share no memory, and nothing is kept of what was written into one (P2).
func TestP15Memory(t *testing.T) {
	for seed := range int64(40) {
		table := conventions()[seed%9]
		bytes, err := prologue.Encode(makeProgram(seed, table))
		if err != nil {
			continue
		}
		text := prologue.Print(table)
		c, err := prologue.Build(text, bytes)
		if err != nil {
			continue
		}
		other, _ := prologue.Build(text, bytes)
		is := untouched(other)
		for _, marked := range mark(c) {
			if !marked() {
				t.Fatalf("seed %d: two lists share memory", seed)
			}
		}
		again, _ := prologue.Build(text, bytes)
		if !is() || !sameCode(other, again) {
			t.Fatalf("seed %d: what was written into one answer is seen elsewhere", seed)
		}
	}
}
