package table

import "unicode/utf8"

// What a rune begins, or goes on with.
const (
	nothing = iota
	space
	comment
	word
	number
	dash
	stop
)

// piece of a text: the bytes from at up to end.
type piece struct {
	kind, at, end int
}

func kindOf(r rune) int {
	switch {
	case r == ' ' || r == '\t' || r == '\n':
		return space
	case r == '#':
		return comment
	case 'a' <= r && r <= 'z':
		return word
	case '0' <= r && r <= '9':
		return number
	case r == '-':
		return dash
	case r == ';':
		return stop
	}
	return nothing
}

// cut gives the pieces of a text, and the place of the first byte that begins none (-1, if each one does).
func cut(text string) ([]piece, int) {
	var pieces []piece
	inComment := false
	for at, r := range text {
		if inComment {
			if isBroken(text[at:], r) {
				return nil, at
			}
			inComment = r != '\n'
			continue
		}
		switch kind := kindOf(r); kind {
		case nothing:
			return nil, at
		case comment:
			inComment = true
		case word, number, dash, stop:
			pieces = addRune(pieces, kind, at)
		}
	}
	return pieces, -1
}

// isBroken asks for the width, as U+FFFD may also stand in a text rightly, in three bytes.
func isBroken(rest string, r rune) bool {
	if r != utf8.RuneError {
		return false
	}
	_, width := utf8.DecodeRuneInString(rest)
	return width == 1
}

// addRune lengthens the last piece, if that is a word or a number which the rune goes on with.
func addRune(pieces []piece, kind, at int) []piece {
	last := len(pieces) - 1
	if (kind == word || kind == number) && last >= 0 && pieces[last].kind == kind && pieces[last].end == at {
		pieces[last].end = at + 1
		return pieces
	}
	return append(pieces, piece{kind, at, at + 1})
}
