package lower

import (
	"prologue/api"
	"prologue/order"
)

// writer of the code of one function. made is what was written of the block that is at hand. All cells are counted from the lowest one of the frame: there the stack pointer stands all the time but ahead of the beginning and behind the end.
type writer struct {
	t     api.Table
	p     api.Program
	f     api.Func
	sig   api.Sig
	own   api.Layout
	frame api.Frame
	made  []api.Move
}

func (w *writer) add(m api.Move) { w.made = append(w.made, m) }

// take what was written, and begin anew.
func (w *writer) take() []api.Move {
	made := w.made
	w.made = nil
	return made
}

func cell(at int) api.Place { return api.Place{Reg: -1, At: at} }

func register(r int) api.Place { return api.Place{Reg: r} }

func isCell(p api.Place) bool { return p.Reg == -1 }

// shifted: a place whose cells were counted from somewhere else.
func shifted(p api.Place, by int) api.Place {
	if isCell(p) {
		p.At += by
	}
	return p
}

// home of a local, be it a register or a cell.
func (w *writer) home(local int) api.Place {
	if r := w.f.Homes[local]; r != -1 {
		return register(r)
	}
	return w.cellOf(local)
}

// cellOf a local: there is one also for those whose home is a register.
func (w *writer) cellOf(local int) api.Place { return cell(w.frame.Cells + 8*local) }

// word of what is handed over: of a local (words is 0) the only one, of a slot the n-th one.
func (w *writer) word(words, which, n int) api.Place {
	if words == 0 {
		return w.home(which)
	}
	return cell(w.frame.Slots[which] + 8*n)
}

// moves that are meant all at once.
func (w *writer) moves(l ...api.Pair) {
	for _, p := range order.Of(w.t, l) {
		switch {
		case isCell(p.To):
			w.store(p.From.Reg, p.To)
		case isCell(p.From):
			w.load(p.To.Reg, p.From)
		default:
			w.add(api.Move{Op: api.Mov, R: p.To.Reg, A: p.From.Reg})
		}
	}
}

func (w *writer) load(r int, from api.Place) {
	w.add(api.Move{Op: api.Ld, R: r, N: int64(from.At), W: 8})
}

func (w *writer) store(r int, to api.Place) {
	w.add(api.Move{Op: api.St, R: r, N: int64(to.At), W: 8})
}

// read a place: the register that has what stands there; for a cell this is a temporary one, which is loaded.
func (w *writer) read(p api.Place, temp int) int {
	if isCell(p) {
		w.load(w.t.Temps[temp], p)
		return w.t.Temps[temp]
	}
	return p.Reg
}

// set a place by an instruction that makes, in whatever register it is told, what is to come there.
func (w *writer) set(p api.Place, m api.Move) {
	if !isCell(p) {
		m.R = p.Reg
		w.add(m)
		return
	}
	m.R = w.t.Temps[0]
	w.add(m)
	w.store(m.R, p)
}

func (w *writer) moveSP(by int) {
	if by != 0 {
		w.add(api.Move{Op: api.Sp, N: int64(by)})
	}
}

// turned about: the moves back.
func turned(l []api.Pair) []api.Pair {
	var back []api.Pair
	for _, p := range l {
		back = append(back, api.Pair{To: p.From, From: p.To})
	}
	return back
}
