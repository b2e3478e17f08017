// Package table: tables of calling conventions: their texts, their check, and those that are built in.
package table

import "prologue/api"

// How many registers the lists of a table may have (of Results: api.MaxResults).
const (
	maxArgs  = 8
	maxSaves = 12
)

// The items of a table's text, in the order in which they are printed.
const (
	regs = iota
	sp
	link
	temps
	args
	results
	saves
	align
	shadow
	byRef
	pairs
	itemCount
)

// item: how many numbers stand behind the name; whether - may stand for one; whether the item may be missing.
type item struct {
	name        string
	least, most int
	dash, spare bool
}

var items = [itemCount]item{
	{"regs", 1, 1, false, false},
	{"sp", 1, 1, false, false},
	{"link", 1, 1, true, false},
	{"temps", 2, 2, false, false},
	{"args", 0, maxArgs, false, false},
	{"results", 0, api.MaxResults, false, false},
	{"saves", 0, maxSaves, false, false},
	{"align", 1, 1, false, false},
	{"shadow", 1, 1, false, false},
	{"byref", 1, 1, false, false},
	{"pairs", 0, 0, false, true},
}

// itemNamed: -1, if there is none of this name.
func itemNamed(name string) int {
	for k := range itemCount {
		if items[k].name == name {
			return k
		}
	}
	return -1
}
