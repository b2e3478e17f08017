package prologue_test

import (
	"math"
	"reflect"
	"slices"
	"strings"
	"testing"

	"prologue/api"
	"prologue/plain"
	"prologue/prologue"
)

const (
	textT = "regs 12; sp 11; link -; temps 9 10; args 0 1 2 3; results 0 1; saves 5 6 7; align 16; shadow 0; byref 2;"
	textU = "regs 14; sp 13; link 12; temps 10 11; args 0 1 2 3; results 0 1; saves 6 7 8 9; align 16; shadow 16; byref 2; pairs;"
)

func tableT() api.Table {
	return api.Table{Regs: 12, SP: 11, Link: -1, Temps: [2]int{9, 10}, Args: []int{0, 1, 2, 3}, Results: []int{0, 1}, Saves: []int{5, 6, 7}, Align: 16, ByRef: 2}
}

func tableU() api.Table {
	return api.Table{Regs: 14, SP: 13, Link: 12, Temps: [2]int{10, 11}, Args: []int{0, 1, 2, 3}, Results: []int{0, 1}, Saves: []int{6, 7, 8, 9}, Align: 16, Shadow: 16, ByRef: 2, Pairs: true}
}

// sameTable takes a list without anything in it as the same, be it nil or not.
func sameTable(a, b api.Table) bool {
	if !slices.Equal(a.Args, b.Args) || !slices.Equal(a.Results, b.Results) || !slices.Equal(a.Saves, b.Saves) {
		return false
	}
	a.Args, a.Results, a.Saves = nil, nil, nil
	b.Args, b.Results, b.Saves = nil, nil, nil
	return reflect.DeepEqual(a, b)
}

func isTable(t *testing.T, text string, want api.Table) {
	t.Helper()
	if got, err := prologue.Parse(text); err != nil || !sameTable(got, want) {
		t.Errorf("Parse(%q) = %+v, %v, want %+v", text, got, err, want)
	}
}

func isWrong(t *testing.T, text string, e api.Errno, at int) {
	t.Helper()
	got, err := prologue.Parse(text)
	bad, ok := err.(*api.Bad)
	if !ok || bad.Err != error(e) || bad.Func != -1 || bad.Block != -1 || bad.At != at || !reflect.DeepEqual(got, api.Table{}) {
		t.Errorf("Parse(%q) = %+v, %+v, want %v at %d", text, got, err, e, at)
	}
	if _, f := plain.Parse(text); f != (plain.Fault{E: int(e), Func: -1, Block: -1, At: at}) {
		t.Errorf("plain.Parse(%q): %+v", text, f)
	}
}

func TestP4Samples(t *testing.T) {
	isTable(t, textT, tableT())
	isTable(t, textU, tableU())
}

func TestP4AnyOrder(t *testing.T) {
	items := strings.SplitAfter(strings.ReplaceAll(textU, "; ", ";"), ";")
	items = items[:len(items)-1]
	for turn := range items {
		turned := slices.Concat(items[turn:], items[:turn])
		isTable(t, strings.Join(turned, ""), tableU())
		slices.Reverse(turned)
		isTable(t, strings.Join(turned, "\n"), tableU())
	}
}

func TestP4Spaces(t *testing.T) {
	isTable(t, strings.ReplaceAll(textT, "; ", ";"), tableT())
	isTable(t, strings.ReplaceAll(textT, " ", "\t \n"), tableT())
	isTable(t, strings.ReplaceAll(textT, ";", " ; "), tableT())
	isTable(t, "\n\t "+textT+"\n\t ", tableT())
	isTable(t, strings.NewReplacer("regs 12", "regs12", "link -", "link-", "args 0", "args0").Replace(textT), tableT())
}

func TestP4Comments(t *testing.T) {
	isTable(t, textT+"#", tableT())
	isTable(t, textT+"# to the end; regs 1 $ \x00 \r \u00fc \u4e2d \U0001F600 \ufffd", tableT())
	isTable(t, "# first\n"+textT, tableT())
	isTable(t, "#\n##\n"+textT+"#\n", tableT())
	isTable(t, strings.Replace(textT, "regs 12", "regs#12 # 13;\n12#\n", 1), tableT())
	isWrong(t, "# "+textT, api.ErrText, len(textT)+2)
	isWrong(t, "# \u00fc\r"+textT, api.ErrText, len(textT)+5)
	isWrong(t, "reg#\ns 12;", api.ErrText, 0)
	isWrong(t, "regs 1#\n2;", api.ErrText, 8)
}

// The place of a byte that begins nothing is told ahead of all that is wrong with pieces.
func TestP4Bytes(t *testing.T) {
	pieces := "abcdefghijklmnopqrstuvwxyz0123456789-;"
	for b := range 256 {
		one := string([]byte{byte(b)})
		switch {
		case strings.Contains(" \t\n", one):
			isTable(t, one+textT+one, tableT())
			isWrong(t, "foo"+one+"$", api.ErrText, 4)
		case one == "#":
			isTable(t, textT+one, tableT())
			isWrong(t, "foo"+one+"$", api.ErrText, 0)
		case strings.Contains(pieces, one):
			isWrong(t, textT+" "+one, api.ErrText, len(textT)+1)
			isWrong(t, "foo "+one+"$", api.ErrText, 5)
		default:
			isWrong(t, one, api.ErrText, 0)
			isWrong(t, textT+one, api.ErrText, len(textT))
			isWrong(t, "; foo"+one+"$", api.ErrText, 5)
		}
		if b >= 0x80 {
			isWrong(t, "# "+one, api.ErrText, 2)
			isWrong(t, "; # \u00fc"+one+"\n$", api.ErrText, 6)
			isWrong(t, "; # "+one+"\ufffd", api.ErrText, 4)
		} else {
			isTable(t, textT+"# "+one, tableT())
		}
	}
}

func TestP4Runes(t *testing.T) {
	for _, s := range []string{"\u00fc", "\u0661", "\uff41", "\u00a0", "\u2028", "\ufeff", "\ufffd", "\U0001F600"} {
		isWrong(t, s, api.ErrText, 0)
		isWrong(t, textT+s, api.ErrText, len(textT))
		isWrong(t, textT[:6]+s+textT[6:], api.ErrText, 6)
		isTable(t, textT+"#"+s+"\n#"+s, tableT())
	}
	for _, s := range []string{"\xc3", "\xc0\x80", "\xe4\xb8", "\xed\xa0\x80", "\xf0\x9f\x98", "\xf4\x90\x80\x80", "\x80", "\xff"} {
		isWrong(t, textT+"#"+s, api.ErrText, len(textT)+1)
		isWrong(t, "#\u4e2d"+s+"\n", api.ErrText, 4)
		isWrong(t, "$#"+s, api.ErrText, 0)
	}
}

func TestP4Size(t *testing.T) {
	for _, fill := range []string{" ", "\n", "#", "# ;\xff"} {
		long := textT + strings.Repeat(fill, api.MaxText)
		isWrong(t, long[:api.MaxText+1], api.ErrSize, 0)
	}
	isWrong(t, strings.Repeat("$", api.MaxText+1), api.ErrSize, 0)
	isWrong(t, strings.Repeat("\u00fc", api.MaxText/2+1), api.ErrSize, 0)
	isTable(t, textT+strings.Repeat(" ", api.MaxText-len(textT)), tableT())
	isTable(t, strings.Repeat("\n", api.MaxText-len(textU))+textU, tableU())
	isTable(t, textT+strings.Repeat("#", api.MaxText-len(textT)), tableT())
	isWrong(t, strings.Repeat("$", api.MaxText), api.ErrText, 0)
	isWrong(t, strings.Repeat(" ", api.MaxText), api.ErrText, api.MaxText)
	isWrong(t, textT+strings.Repeat(" ", api.MaxText-len(textT)-1)+"-", api.ErrText, api.MaxText-1)
}

func TestP4Numbers(t *testing.T) {
	want := tableT()
	want.Regs = 999
	isTable(t, strings.Replace(textT, "12", "999", 1), want)
	want.Regs = 7
	isTable(t, strings.Replace(textT, "12", "007", 1), want)
	want.Regs = 0
	isTable(t, strings.Replace(textT, "12", "000", 1), want)
	isWrong(t, strings.Replace(textT, "12", "0012", 1), api.ErrText, 5)
	isWrong(t, strings.Replace(textT, "12", strings.Repeat("9", 200), 1), api.ErrText, 5)
	isWrong(t, strings.Replace(textT, "12", "-1", 1), api.ErrText, 5)
	isWrong(t, "args 1 2 3456;", api.ErrText, 9)
	isWrong(t, "link 1000;", api.ErrText, 5)
	isWrong(t, "link -1;", api.ErrText, 6)
	isWrong(t, "link --;", api.ErrText, 6)
	isWrong(t, "args -;", api.ErrText, 5)
	isWrong(t, "args 1 -;", api.ErrText, 7)
	isWrong(t, "pairs -;", api.ErrText, 6)
	want = tableT()
	want.Link = 0
	isTable(t, strings.Replace(textT, "link -", "link 0", 1), want)
}

// itemTexts: each item, as short and as long as it may be.
var itemTexts = []struct{ short, long string }{
	{"regs 1", "regs 1"}, {"sp 1", "sp 1"}, {"link -", "link 1"}, {"temps 1 2", "temps 1 2"},
	{"args", "args 1 2 3 4 5 6 7 8"}, {"results", "results 1 2 3 4"}, {"saves", "saves 1 2 3 4 5 6 7 8 9 10 11 12"},
	{"align 1", "align 1"}, {"shadow 1", "shadow 1"}, {"byref 1", "byref 1"}, {"pairs", "pairs"},
}

func TestP4Counts(t *testing.T) {
	short, long := "", ""
	for _, c := range itemTexts {
		short += c.short + ";"
		long += c.long + ";"
		name, numbers, _ := strings.Cut(c.short, " ")
		for _, text := range []string{c.short, c.long} {
			isWrong(t, text, api.ErrText, len(text))
			isWrong(t, text+" # ;", api.ErrText, len(text)+4)
			isWrong(t, text+";"+text+";", api.ErrText, len(text)+1)
			isWrong(t, text+" sp;", api.ErrText, len(text)+1)
			isWrong(t, text+";;", api.ErrText, len(text)+1)
			isWrong(t, text+"; 1;", api.ErrText, len(text)+2)
			isWrong(t, text+"; x", api.ErrText, len(text)+2)
			isWrong(t, text+"; -", api.ErrText, len(text)+2)
		}
		isWrong(t, c.long+" 13;", api.ErrText, len(c.long)+1)
		isWrong(t, c.long+" -;", api.ErrText, len(c.long)+1)
		if numbers != "" {
			cut := strings.LastIndex(c.short, " ")
			isWrong(t, c.short[:cut]+";", api.ErrText, cut)
			isWrong(t, c.short[:cut], api.ErrText, cut)
			isWrong(t, name+";", api.ErrText, len(name))
		}
	}
	isTable(t, short, api.Table{Regs: 1, SP: 1, Link: -1, Temps: [2]int{1, 2}, Align: 1, Shadow: 1, ByRef: 1, Pairs: true})
	isTable(t, long, api.Table{Regs: 1, SP: 1, Link: 1, Temps: [2]int{1, 2}, Args: []int{1, 2, 3, 4, 5, 6, 7, 8}, Results: []int{1, 2, 3, 4},
		Saves: []int{1, 2, 3, 4, 5, 6, 7, 8, 9, 10, 11, 12}, Align: 1, Shadow: 1, ByRef: 1, Pairs: true})
}

// Each item has values of its own, so that none may come into another one's field.
func TestP4Fields(t *testing.T) {
	isTable(t, "regs 101; sp 102; link 103; temps 104 105; args 106 107; results 108; saves 109 110; align 111; shadow 112; byref 113;",
		api.Table{Regs: 101, SP: 102, Link: 103, Temps: [2]int{104, 105}, Args: []int{106, 107}, Results: []int{108}, Saves: []int{109, 110}, Align: 111, Shadow: 112, ByRef: 113})
}

func TestP4Missing(t *testing.T) {
	items := strings.SplitAfter(textT, ";")
	items = items[:len(items)-1]
	for k := range items {
		text := strings.Join(slices.Concat(items[:k], items[k+1:]), "")
		isWrong(t, text, api.ErrText, len(text))
		isWrong(t, text+"pairs; # x", api.ErrText, len(text)+10)
	}
	isWrong(t, "", api.ErrText, 0)
	isWrong(t, " ", api.ErrText, 1)
	isWrong(t, "#", api.ErrText, 1)
	isWrong(t, "pairs;", api.ErrText, 6)
}

func TestP4Names(t *testing.T) {
	for _, name := range []string{"reg", "regss", "r", "byrefs", "pair", "regssp", "SP", "Regs"} {
		isWrong(t, name, api.ErrText, 0)
		isWrong(t, "sp 1;"+name+" 1;", api.ErrText, 5)
	}
	isWrong(t, "regS 1;", api.ErrText, 3)
	isWrong(t, "by ref 1;", api.ErrText, 0)
	isWrong(t, "regs1x", api.ErrText, 5)
	isWrong(t, "1regs;", api.ErrText, 0)
}

func TestP4DocumentExamples(t *testing.T) {
	isWrong(t, "", api.ErrText, 0)
	isWrong(t, "regs", api.ErrText, 4)
	isWrong(t, "regs 12 13;", api.ErrText, 8)
	isWrong(t, "regs 1234;", api.ErrText, 5)
	isWrong(t, "sp 1; sp 2;", api.ErrText, 6)
	isWrong(t, "regs 9; $", api.ErrText, 8)
}

func TestP4Print(t *testing.T) {
	for _, c := range []struct {
		table api.Table
		want  string
	}{
		{tableT(), "regs 12;\nsp 11;\nlink -;\ntemps 9 10;\nargs 0 1 2 3;\nresults 0 1;\nsaves 5 6 7;\nalign 16;\nshadow 0;\nbyref 2;\n"},
		{tableU(), "regs 14;\nsp 13;\nlink 12;\ntemps 10 11;\nargs 0 1 2 3;\nresults 0 1;\nsaves 6 7 8 9;\nalign 16;\nshadow 16;\nbyref 2;\npairs;\n"},
		{api.Table{}, "regs 0;\nsp 0;\nlink 0;\ntemps 0 0;\nargs;\nresults;\nsaves;\nalign 0;\nshadow 0;\nbyref 0;\n"},
		{api.Table{Args: []int{}, Results: []int{}, Saves: []int{}}, "regs 0;\nsp 0;\nlink 0;\ntemps 0 0;\nargs;\nresults;\nsaves;\nalign 0;\nshadow 0;\nbyref 0;\n"},
		{api.Table{Regs: -1, SP: -1, Link: -2, Temps: [2]int{-1, 1000}, Args: []int{-1, 1, 2, 3, 4, 5, 6, 7, 8}, Results: []int{-1}, Saves: []int{-1}, Align: -1, Shadow: -1, ByRef: -1},
			"regs -1;\nsp -1;\nlink -2;\ntemps -1 1000;\nargs -1 1 2 3 4 5 6 7 8;\nresults -1;\nsaves -1;\nalign -1;\nshadow -1;\nbyref -1;\n"},
		{api.Table{Regs: math.MaxInt, SP: math.MinInt}, "regs 9223372036854775807;\nsp -9223372036854775808;\nlink 0;\ntemps 0 0;\nargs;\nresults;\nsaves;\nalign 0;\nshadow 0;\nbyref 0;\n"},
	} {
		if s := prologue.Print(c.table); s != c.want {
			t.Errorf("Print(%+v) = %q, want %q", c.table, s, c.want)
		}
	}
}

func TestP4PrintedIsParsed(t *testing.T) {
	for _, want := range []api.Table{tableT(), tableU(), {}, {Link: -1, Temps: [2]int{999, 10}, Args: []int{8, 7, 6, 5, 4, 3, 2, 1}, Results: []int{4, 4, 4, 4}, Saves: make([]int, 12), Pairs: true}} {
		isTable(t, prologue.Print(want), want)
	}
}

// The lists of an answer share no memory, and a second answer has lists of its own (P2).
func TestP4NewLists(t *testing.T) {
	first, _ := prologue.Parse(textT)
	lists := [][]int{first.Args, first.Results, first.Saves}
	for k, l := range lists {
		l = l[:cap(l)]
		for i := range l {
			l[i] = 100 + k
		}
	}
	for k, l := range lists {
		if slices.ContainsFunc(l, func(n int) bool { return n != 100+k }) {
			t.Errorf("the list %d shares memory with another one: %v", k, l)
		}
	}
	isTable(t, textT, tableT())
}
