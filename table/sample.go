package table

import (
	"sync"

	"prologue/api"
)

// The texts of the tables that are built in: one that pushes return addresses, one that has a link.
const (
	pushing = "regs 12; sp 11; link -; temps 9 10; args 0 1 2 3; results 0 1; saves 5 6 7; align 16; shadow 0; byref 2;"
	linking = "regs 14; sp 13; link 12; temps 10 11; args 0 1 2 3; results 0 1; saves 6 7 8 9; align 16; shadow 16; byref 2; pairs;"
)

// reading of a text that is built in, which is gone through once, however often its table is asked for. Each call of Sample has one of its own: nothing is kept from call to call, and each caller may write into the lists that it gets.
type reading struct {
	text  string
	once  sync.Once
	table api.Table
}

// Sample: the k-th table that is built in.
func Sample(k int) (api.Table, error) {
	switch k {
	case 0:
		return (&reading{text: pushing}).read(), nil
	case 1:
		return (&reading{text: linking}).read(), nil
	}
	return api.Table{}, api.ErrArg
}

// read asks for no error: the texts are constants, and tables both.
func (r *reading) read() api.Table {
	r.once.Do(func() { r.table, _ = Parse(r.text) })
	return r.table
}
