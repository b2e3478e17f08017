package lower

import (
	"slices"

	"prologue/api"
	"prologue/layout"
	"prologue/program"
)

// callFor results: behind the call all locals have what they had, but for those into which the results come.
func (w *writer) callFor(op int, i api.Ins) {
	l := w.layoutOf(i)
	lost := w.lost(i.Outs)
	w.call(op, i, l, lost)
	back := turned(lost)
	for k, from := range l.Results {
		back = append(back, api.Pair{To: w.home(i.Outs[k]), From: from})
	}
	w.moves(back...)
}

// layoutOf what an instruction calls.
func (w *writer) layoutOf(i api.Ins) api.Layout {
	s, _ := program.Callee(w.p, i)
	return layout.Of(w.t, s)
}

// lost: the locals that a call does not keep where they are at home, to cells where it does; outs are not asked for any more.
func (w *writer) lost(outs []int) []api.Pair {
	var l []api.Pair
	for k, r := range w.f.Homes {
		if r != -1 && !slices.Contains(w.t.Saves, r) && !slices.Contains(outs, k) {
			l = append(l, api.Pair{To: w.cellOf(k), From: register(r)})
		}
	}
	return l
}

// call with all arguments where they are to be, and with what else is to be moved ahead of it. Addresses come last: they are made out of nothing that the moves could spoil, but may come to where these read.
func (w *writer) call(op int, i api.Ins, l api.Layout, more []api.Pair) {
	for k, spot := range l.Args {
		if spot.Ref {
			w.copyBlock(i.Args[k], w.copyAt(spot))
		}
	}
	w.moves(append(w.passed(i.Args, l, 0), more...)...)
	for _, spot := range l.Args {
		if spot.Ref {
			w.set(spot.Places[0], api.Move{Op: api.Lea, N: int64(w.copyAt(spot))})
		}
	}
	w.add(api.Move{Op: op, F: i.F})
}

func (w *writer) copyAt(spot api.Spot) int { return w.frame.Out + spot.At }

func (w *writer) copyBlock(a api.Arg, at int) {
	for n := range a.Words {
		w.moves(api.Pair{To: cell(at + 8*n), From: w.word(a.Words, a.From, n)})
	}
}

// passed: the words of arguments, but for those that go by reference, to where a layout has them, its cells being counted from area on.
func (w *writer) passed(args []api.Arg, l api.Layout, area int) []api.Pair {
	var pairs []api.Pair
	for k, spot := range l.Args {
		if spot.Ref {
			continue
		}
		for n, to := range spot.Places {
			pairs = append(pairs, api.Pair{To: shifted(to, area), From: w.word(args[k].Words, args[k].From, n)})
		}
	}
	return pairs
}

// leave the frame, with these moves ahead of it; what was kept comes back together with them, as they may read locals whose homes are such registers.
func (w *writer) leave(l []api.Pair) {
	w.moves(append(l, turned(w.kept())...)...)
	w.moveSP(w.frame.Size)
}

func (w *writer) giveBack(i api.Ins) {
	var l []api.Pair
	for k, to := range w.own.Results {
		l = append(l, api.Pair{To: shifted(to, w.frame.In), From: w.home(i.Outs[k])})
	}
	w.leave(l)
	w.add(api.Move{Op: api.Ret})
}

// tail call: where it is no jump, what it gives goes on to where the function's own results are.
func (w *writer) tail(i api.Ins) {
	l := w.layoutOf(i)
	if layout.IsJump(w.t, w.sig, program.Sig(w.p.Funcs[i.F])) {
		w.leave(w.passed(i.Args, l, w.frame.In))
		w.add(api.Move{Op: api.Leap, F: i.F})
		return
	}
	w.call(api.Calls, i, l, nil)
	var on []api.Pair
	for k, to := range w.own.Results {
		on = append(on, api.Pair{To: shifted(to, w.frame.In), From: l.Results[k]})
	}
	w.leave(on)
	w.add(api.Move{Op: api.Ret})
}
