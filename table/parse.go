package table

import "prologue/api"

// maxDigits of a number in a text.
const maxDigits = 3

// reader of a text's pieces. Where something cannot be read, next stays at the piece that is to blame.
type reader struct {
	text   string
	pieces []piece
	next   int
	seen   [itemCount]bool
	values [itemCount][]int
}

// Parse a table's text.
func Parse(text string) (api.Table, error) {
	if len(text) > api.MaxText {
		return api.Table{}, badAt(api.ErrSize, 0)
	}
	pieces, wrong := cut(text)
	if wrong >= 0 {
		return api.Table{}, badAt(api.ErrText, wrong)
	}
	r := reader{text: text, pieces: pieces}
	if !r.readItems() || !r.hasAll() {
		return api.Table{}, badAt(api.ErrText, r.place())
	}
	return r.table(), nil
}

func badAt(e api.Errno, at int) error {
	return &api.Bad{Err: e, Func: -1, Block: -1, At: at}
}

// place of the next piece, or the text's length behind the last one.
func (r *reader) place() int {
	if r.next < len(r.pieces) {
		return r.pieces[r.next].at
	}
	return len(r.text)
}

// peek: the next piece's kind and text; nothing behind the last one.
func (r *reader) peek() (int, string) {
	if r.next >= len(r.pieces) {
		return nothing, ""
	}
	p := r.pieces[r.next]
	return p.kind, r.text[p.at:p.end]
}

func (r *reader) readItems() bool {
	for r.next < len(r.pieces) {
		if !r.readItem() {
			return false
		}
	}
	return true
}

func (r *reader) readItem() bool {
	k := r.readName()
	return k >= 0 && r.readNumbers(k) && r.readStop()
}

// readName gives the item's number, or -1.
func (r *reader) readName() int {
	_, name := r.peek()
	k := itemNamed(name)
	if k < 0 || r.seen[k] {
		return -1
	}
	r.seen[k] = true
	r.next++
	return k
}

func (r *reader) readNumbers(k int) bool {
	for len(r.values[k]) < items[k].most {
		v, ok := r.readNumber(items[k].dash)
		if !ok {
			break
		}
		r.values[k] = append(r.values[k], v)
	}
	return len(r.values[k]) >= items[k].least
}

func (r *reader) readNumber(dashToo bool) (int, bool) {
	kind, digits := r.peek()
	switch {
	case kind == dash && dashToo:
		r.next++
		return -1, true
	case kind == number && len(digits) <= maxDigits:
		r.next++
		return valueOf(digits), true
	}
	return 0, false
}

func valueOf(digits string) int {
	v := 0
	for _, d := range digits {
		v = 10*v + int(d-'0')
	}
	return v
}

func (r *reader) readStop() bool {
	kind, _ := r.peek()
	if kind != stop {
		return false
	}
	r.next++
	return true
}

func (r *reader) hasAll() bool {
	for k := range itemCount {
		if !r.seen[k] && !items[k].spare {
			return false
		}
	}
	return true
}

func (r *reader) table() api.Table {
	v := r.values
	return api.Table{
		Regs:    v[regs][0],
		SP:      v[sp][0],
		Link:    v[link][0],
		Temps:   [2]int{v[temps][0], v[temps][1]},
		Args:    v[args],
		Results: v[results],
		Saves:   v[saves],
		Align:   v[align][0],
		Shadow:  v[shadow][0],
		ByRef:   v[byRef][0],
		Pairs:   r.seen[pairs],
	}
}
