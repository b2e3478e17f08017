package order

import (
	"prologue/api"
	"prologue/table"
)

// Moves that, made one behind the other, do what those of the list do all at once.
func Moves(t api.Table, l []api.Pair) ([]api.Pair, error) {
	if err := table.Check(t); err != nil {
		return nil, err
	}
	if len(l) > api.MaxPairs {
		return nil, api.ErrSize
	}
	if !arePlaces(t, l) || !areApart(l) {
		return nil, api.ErrArg
	}
	return Of(t, l), nil
}

// Of a list: Moves for those who know that the table and the list may be.
func Of(t api.Table, l []api.Pair) []api.Pair {
	w := &work{t: t, readers: map[api.Place]int{}}
	for _, p := range l {
		if p.To != p.From {
			w.left = append(w.left, p)
			w.readers[p.From]++
		}
	}
	w.run()
	return w.made
}

func arePlaces(t api.Table, l []api.Pair) bool {
	for _, p := range l {
		if !isPlace(t, p.To) || !isPlace(t, p.From) {
			return false
		}
	}
	return true
}

func isPlace(t api.Table, p api.Place) bool {
	if isCell(p) {
		return p.At >= 0 && p.At < api.MaxStack && p.At%8 == 0
	}
	return p.Reg >= 0 && p.Reg < t.Regs && p.At == 0 &&
		p.Reg != t.SP && p.Reg != t.Temps[0] && p.Reg != t.Temps[1]
}

// areApart: no two come to one place.
func areApart(l []api.Pair) bool {
	count := map[api.Place]int{}
	for _, p := range l {
		count[p.To]++
		if count[p.To] > 1 {
			return false
		}
	}
	return true
}
