package lower

import (
	"slices"

	"prologue/api"
)

// begin the function: its frame is taken, what must be kept is laid aside, and all locals and slots get what they have at first. Blocks that came by reference are read first, while their addresses are where they came; what is 0 is set last, as arguments may stand in its homes.
func (w *writer) begin() {
	w.moveSP(-w.frame.Size)
	for k, spot := range w.own.Args {
		if spot.Ref {
			w.fetch(spot, w.f.Params[k])
		}
	}
	w.moves(append(w.kept(), w.arrived()...)...)
	w.clear()
	w.add(api.Move{Op: api.Jump, A: 1})
}

// fetch the words of a copy into a slot.
func (w *writer) fetch(spot api.Spot, p api.Param) {
	address := w.read(shifted(spot.Places[0], w.frame.In), 0)
	temp := w.t.Temps[1]
	for n := range p.Words {
		w.add(api.Move{Op: api.Ldx, R: temp, A: address, N: int64(8 * n)})
		w.store(temp, w.word(p.Words, p.To, n))
	}
}

// kept: the registers that are to be in the end as they were, to the cells that the frame has for them.
func (w *writer) kept() []api.Pair {
	var l []api.Pair
	for _, k := range w.frame.Saves {
		l = append(l, api.Pair{To: cell(k.At), From: register(k.Reg)})
	}
	if w.frame.Link != -1 {
		l = append(l, api.Pair{To: cell(w.frame.Link), From: register(w.t.Link)})
	}
	return l
}

// arrived: the words of the arguments, but for those that came by reference.
func (w *writer) arrived() []api.Pair {
	var l []api.Pair
	for k, spot := range w.own.Args {
		if spot.Ref {
			continue
		}
		p := w.f.Params[k]
		for n, from := range spot.Places {
			l = append(l, api.Pair{To: w.word(p.Words, p.To, n), From: shifted(from, w.frame.In)})
		}
	}
	return l
}

// clear all that no argument comes into.
func (w *writer) clear() {
	var cells []api.Place
	for _, p := range w.empty() {
		if isCell(p) {
			cells = append(cells, p)
		} else {
			w.add(api.Move{Op: api.Li, R: p.Reg})
		}
	}
	if len(cells) == 0 {
		return
	}
	w.add(api.Move{Op: api.Li, R: w.t.Temps[0]})
	for _, p := range cells {
		w.store(w.t.Temps[0], p)
	}
}

// empty: the homes of locals, and the words of slots, that no argument comes into.
func (w *writer) empty() []api.Place {
	var l []api.Place
	for k := range w.f.Homes {
		if !w.comesInto(0, k) {
			l = append(l, w.home(k))
		}
	}
	for k, words := range w.f.Slots {
		if w.comesInto(words, k) {
			continue
		}
		for n := range words {
			l = append(l, w.word(words, k, n))
		}
	}
	return l
}

// comesInto tells whether an argument of so many words comes into this local or slot.
func (w *writer) comesInto(words, which int) bool {
	return slices.Contains(w.f.Params, api.Param{Words: words, To: which})
}
