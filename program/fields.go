// Package program: what programs are made of, and whether they may be.
package program

import "prologue/api"

// Fields of an instruction behind its number, a bit each.
type Fields uint8

// The fields, in the order in which filled looks at them.
const (
	D Fields = 1 << iota
	A
	B
	N
	F
	Args
	Outs
)

// needed: what each instruction needs, by its number. The number 0 is none.
var needed = [...]Fields{
	api.Const:  D | N,
	api.Copy:   D | A,
	api.Add:    D | A | B,
	api.Sub:    D | A | B,
	api.Mul:    D | A | B,
	api.And:    D | A | B,
	api.Xor:    D | A | B,
	api.Less:   D | A | B,
	api.Same:   D | A | B,
	api.Load:   D | A | B | N,
	api.Store:  D | A | B | N,
	api.Call:   F | Args | Outs,
	api.Ext:    F | Args | Outs,
	api.Goto:   A,
	api.If:     D | A | B,
	api.Return: Outs,
	api.Tail:   F | Args,
	api.Trap:   N,
}

// Needs: the fields that the instruction of this number needs; none, if there is no such instruction.
func Needs(op int) Fields {
	if op < 0 || op >= len(needed) {
		return 0
	}
	return needed[op]
}

// Has tells whether a field is among these.
func (s Fields) Has(one Fields) bool { return s&one != 0 }

// HasSpare tells whether something stands in a field that the instruction does not need.
func HasSpare(i api.Ins) bool { return filled(i)&^Needs(i.Op) != 0 }

func filled(i api.Ins) Fields {
	there := [...]bool{i.D != 0, i.A != 0, i.B != 0, i.N != 0, i.F != 0, len(i.Args) != 0, len(i.Outs) != 0}
	var s Fields
	for k, yes := range there {
		if yes {
			s |= 1 << k
		}
	}
	return s
}

// Ends tells whether the instruction of this number ends a block.
func Ends(op int) bool { return op >= api.Goto && op <= api.Trap }
