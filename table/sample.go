package table

import (
	"slices"
	"sync"

	"prologue/api"
)

// The texts of the tables that are built in: one that pushes return addresses, one that has a link.
const (
	pushing = "regs 12; sp 11; link -; temps 9 10; args 0 1 2 3; results 0 1; saves 5 6 7; align 16; shadow 0; byref 2;"
	linking = "regs 14; sp 13; link 12; temps 10 11; args 0 1 2 3; results 0 1; saves 6 7 8 9; align 16; shadow 16; byref 2; pairs;"
)

// shelf of the tables that are built in, once their texts are read.
type shelf struct {
	once   sync.Once
	tables [2]api.Table
}

var builtIn = shelf{}

// Sample: the k-th table that is built in.
func Sample(k int) (api.Table, error) {
	if k != 0 && k != 1 {
		return api.Table{}, api.ErrArg
	}
	builtIn.once.Do(readBuiltIn)
	return clone(builtIn.tables[k]), nil
}

// readBuiltIn asks for no error: the texts are constants, and tables both.
func readBuiltIn() {
	builtIn.tables[0], _ = Parse(pushing)
	builtIn.tables[1], _ = Parse(linking)
}

// clone: the lists that are given out may be written into, those on the shelf may not.
func clone(t api.Table) api.Table {
	t.Args = slices.Clone(t.Args)
	t.Results = slices.Clone(t.Results)
	t.Saves = slices.Clone(t.Saves)
	return t
}
