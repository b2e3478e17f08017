package lower

import "prologue/api"

// instruction of a program. The block k of a function is the block k + 1 of its code.
func (w *writer) instruction(i api.Ins) {
	switch i.Op {
	case api.Const:
		w.set(w.home(i.D), api.Move{Op: api.Li, N: int64(i.N)})
	case api.Copy:
		w.moves(api.Pair{To: w.home(i.D), From: w.home(i.A)})
	case api.Load:
		w.set(w.home(i.D), w.inSlot(api.Ld, i))
	case api.Store:
		m := w.inSlot(api.St, i)
		m.R = w.read(w.home(i.D), 0)
		w.add(m)
	case api.Call:
		w.callFor(api.Calls, i)
	case api.Ext:
		w.callFor(api.Exts, i)
	case api.Goto:
		w.add(api.Move{Op: api.Jump, A: i.A + 1})
	case api.If:
		w.add(api.Move{Op: api.Fork, R: w.read(w.home(i.D), 0), A: i.A + 1, B: i.B + 1})
	case api.Return:
		w.giveBack(i)
	case api.Tail:
		w.tail(i)
	case api.Trap:
		w.add(api.Move{Op: api.Stop, N: int64(i.N)})
	default:
		a, b := w.read(w.home(i.A), 0), w.read(w.home(i.B), 1)
		w.set(w.home(i.D), api.Move{Op: i.Op, A: a, B: b})
	}
}

// inSlot: how the machine reads or writes what Load and Store speak of.
func (w *writer) inSlot(op int, i api.Ins) api.Move {
	return api.Move{Op: op, N: int64(w.frame.Slots[i.A] + i.B), W: int(i.N)}
}
