package checker

import "prologue/api"

// kind of a term. The zero term is unknown: it is never asked for.
type kind int

const (
	unknown   kind = iota
	local          // a: what this local has where the block begins
	earlier        // a: what this register had where the function began
	comeback       // the return address
	number         // n
	operation      // a: of this number, of the terms that the book has as b and c
	inSlot         // what the slot a has, from the byte b on, in the width c, behind d stores of the block
	result         // of the block's a-th call the b-th
	argument       // of the parameter a the word b
	lent           // the address of the copy of the parameter a
	address        // a bytes above the frame's lowest cell
)

// term: what a register, a cell or a local holds. Two are the same if they were made the same way.
type term struct {
	kind       kind
	a, b, c, d int
	n          uint64
}

func numberOf(n uint64) term { return term{kind: number, n: n} }

// book of terms: each gets a number, so that an operation can name its terms and yet is no larger than any other one.
type book map[term]int

func (b book) place(x term) int {
	at, ok := b[x]
	if !ok {
		at = len(b)
		b[x] = at
	}
	return at
}

func (b book) operation(op int, x, y term) term {
	return term{kind: operation, a: op, b: b.place(x), c: b.place(y)}
}

// content of registers and cells. What is not in it is unknown.
type content map[api.Place]term

// hasAll tells whether all that is asked for is where it is asked for.
func (c content) hasAll(asked content) bool {
	for p, x := range asked {
		if c[p] != x {
			return false
		}
	}
	return true
}

func register(r int) api.Place { return api.Place{Reg: r} }

func cell(at int) api.Place { return api.Place{Reg: -1, At: at} }

// shifted: a place whose cells were counted from somewhere else.
func shifted(p api.Place, by int) api.Place {
	if p.Reg == -1 {
		p.At += by
	}
	return p
}
