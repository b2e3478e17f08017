// Package order: moves that are meant all at once are made one behind the other.
package order

import "prologue/api"

// work that is still to be done: the moves that are left; of each place how many of them read it; and those that were made.
type work struct {
	t       api.Table
	left    []api.Pair
	readers map[api.Place]int
	made    []api.Pair
}

// run: where each place is read by a move that is left, these are rings and nothing else, as no two moves come to one place. Of the two temporary registers one is for rings, the other one for moves between cells.
func (w *work) run() {
	for len(w.left) > 0 {
		if !w.makeFree() {
			w.openRing()
		}
	}
}

// makeFree makes the moves into places that no other one reads any more, and tells whether there were any.
func (w *work) makeFree() bool {
	var later []api.Pair
	for _, p := range w.left {
		if w.readers[p.To] > 0 {
			later = append(later, p)
			continue
		}
		w.move(p)
		w.readers[p.From]--
	}
	some := len(later) < len(w.left)
	w.left = later
	return some
}

func (w *work) move(p api.Pair) {
	if isCell(p.To) && isCell(p.From) {
		between := api.Place{Reg: w.t.Temps[0]}
		w.made = append(w.made, api.Pair{To: between, From: p.From})
		p.From = between
	}
	w.made = append(w.made, p)
}

// openRing lays aside what stands in a place, for the one move that reads it.
func (w *work) openRing() {
	place, aside := w.left[0].To, api.Place{Reg: w.t.Temps[1]}
	w.made = append(w.made, api.Pair{To: aside, From: place})
	for k := range w.left {
		if w.left[k].From == place {
			w.left[k].From = aside
			w.readers[place]--
			w.readers[aside]++
		}
	}
}

func isCell(p api.Place) bool { return p.Reg == -1 }
