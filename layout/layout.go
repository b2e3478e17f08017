// Package layout: where the arguments and the results of a call go.
package layout

import (
	"prologue/api"
	"prologue/program"
	"prologue/table"
)

// Classify tells where all goes that a signature speaks of.
func Classify(t api.Table, s api.Sig) (api.Layout, error) {
	if err := table.Check(t); err != nil {
		return api.Layout{}, err
	}
	if !program.SigFits(s) {
		return api.Layout{}, api.ErrArg
	}
	return Of(t, s), nil
}

// Of a signature: Classify for those who know that the table and the signature may be.
func Of(t api.Table, s api.Sig) api.Layout {
	g := &giver{t: t, cells: t.Shadow}
	var l api.Layout
	for _, words := range s.Params {
		l.Args = append(l.Args, g.argument(words))
	}
	l.Results = g.results(s.Results)
	l.Size, l.Copies = g.cells, g.copies
	return l
}

// IsJump tells whether a tail call from one function to another is a jump: the area that the first one's caller left must do for the other one, too.
func IsJump(t api.Table, own, other api.Sig) bool {
	to := Of(t, other)
	return to.Copies == 0 && to.Size <= Of(t, own).Size && other.Results <= len(t.Results)
}
