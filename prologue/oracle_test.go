package prologue_test

import (
	"math/rand"
	"regexp"
	"strings"
	"testing"
	"unicode/utf8"

	"prologue/api"
	"prologue/plain"
)

// The places that P4 asks for, found another way: pieces by a pattern, and the first piece that cannot stand by trying one piece more each time.
var (
	anyPiece = regexp.MustCompile(`^(?:[a-z]+|[0-9]+|[-;]|[ \t\n]+|#[^\n]*)`)
	ended    = `(?:(?:regs|sp|align|shadow|byref) N ; |link [N-] ; |temps N N ; |args (?:N ){0,8}; |results (?:N ){0,4}; |saves (?:N ){0,12}; |pairs ; )*`
	begun    = `(?:(?:regs|sp|align|shadow|byref) (?:N )?|link (?:[N-] )?|temps (?:N ){0,2}|args (?:N ){0,8}|results (?:N ){0,4}|saves (?:N ){0,12}|pairs )?`
	isWhole  = regexp.MustCompile(`^` + ended + `$`)
	isBegin  = regexp.MustCompile(`^` + ended + begun + `$`)
	oneName  = regexp.MustCompile(`[a-z]+`)
)

// slowly: 0 and 0, if the text is a table's, else the error and its place.
func slowly(text string) (api.Errno, int) {
	if len(text) > api.MaxText {
		return api.ErrSize, 0
	}
	var places []int
	var pieces []string
	for at := 0; at < len(text); {
		s := anyPiece.FindString(text[at:])
		if s == "" {
			return api.ErrText, at
		}
		if n := validLength(s); n < len(s) {
			return api.ErrText, at + n
		}
		if !strings.ContainsAny(s[:1], "# \t\n") {
			places, pieces = append(places, at), append(pieces, written(s))
		}
		at += len(s)
	}
	all := ""
	for i, s := range pieces {
		all += s + " "
		if !isBegin.MatchString(all) || twoTheSame(all) {
			return api.ErrText, places[i]
		}
	}
	if names := oneName.FindAllString(strings.ReplaceAll(all, "pairs ", ""), -1); !isWhole.MatchString(all) || len(names) < 10 {
		return api.ErrText, len(text)
	}
	return 0, 0
}

func validLength(s string) int {
	for n := len(s); ; n-- {
		if utf8.ValidString(s[:n]) {
			return n
		}
	}
}

func written(s string) string {
	if s[0] < '0' || s[0] > '9' {
		return s
	}
	if len(s) > 3 {
		return "LONG"
	}
	return "N"
}

func twoTheSame(all string) bool {
	count := map[string]int{}
	for _, s := range oneName.FindAllString(all, -1) {
		count[s]++
		if count[s] > 1 {
			return true
		}
	}
	return false
}

func asSlowly(t *testing.T, text string) {
	t.Helper()
	if e, at := slowly(text); e != 0 {
		isWrong(t, text, e, at)
		return
	}
	got, f := plain.Parse(text)
	if f.E != 0 {
		t.Errorf("Parse(%q): %+v", text, f)
		return
	}
	isTable(t, plain.Print(got), got)
}

func FuzzParse(f *testing.F) {
	for _, s := range []string{"", textT, textU, "regs 12 13;", "# \xff", "foo $", "sp 1; sp 2;", "temps 1 ;", "link - # \ufffd\n;", strings.Repeat("-", 401)} {
		f.Add(s)
	}
	f.Fuzz(asSlowly)
}

func TestP4EachCut(t *testing.T) {
	for i := range len(textU) + 1 {
		asSlowly(t, textU[i:])
		for j := i; j <= len(textU); j++ {
			asSlowly(t, textU[:i]+textU[j:])
		}
	}
}

// Texts that are nearly tables: pieces of tables are taken out, put in and turned about (always the same ones: the seed is fixed).
func TestP4NearlyTables(t *testing.T) {
	bits := []string{"regs", "sp", "link", "temps", "args", "results", "saves", "align", "shadow", "byref", "pairs", "foo", "0", "12", "999", "1000", "-", ";", " ", "\t", "\n", "#", "# x\n", "\ufffd", "\xff", "\u00fc", "$", "pairs;", "sp 1;"}
	r := rand.New(rand.NewSource(1))
	for range 10000 {
		items := strings.SplitAfter(textU, ";")
		r.Shuffle(len(items), func(i, j int) { items[i], items[j] = items[j], items[i] })
		text := strings.Join(items, "")
		for range r.Intn(3) {
			at := r.Intn(len(text) + 1)
			behind := min(len(text), at+r.Intn(3))
			text = text[:at] + bits[r.Intn(len(bits))] + text[behind:]
		}
		asSlowly(t, text)
	}
}
