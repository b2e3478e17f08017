package prologue_test

import (
	"fmt"
	"slices"

	"prologue/api"
)

// watcher of a run, for P17: of each call that has not come back yet, what must be as it was, and the function that is at work in it. wrong tells the first thing that was not so.
type watcher struct {
	t       api.Table
	sigs    []api.Sig
	frames  []api.Frame
	live    []liveCall
	deepest int // how many calls were live at once
	leaps   int
	wrong   string
}

type liveCall struct {
	f     int
	sp    uint64
	saves []uint64
	above []byte
}

func watch(t api.Table, p api.Program) *watcher {
	w := &watcher{t: t}
	for f := range p.Funcs {
		x, _ := slowFrame(t, p, f)
		w.frames = append(w.frames, x)
		w.sigs = append(w.sigs, sigOf(p.Funcs[f]))
	}
	return w
}

func (w *watcher) blame(format string, a ...any) {
	if w.wrong == "" {
		w.wrong = fmt.Sprintf(format, a...)
	}
}

// asItIs: what a call of the function f must keep.
func (w *watcher) asItIs(m *slowMachine, f int) liveCall {
	c := liveCall{f: f, sp: m.regs[m.t.SP]}
	for _, r := range m.t.Saves {
		c.saves = append(c.saves, m.regs[r])
	}
	for at := int(c.sp) + slowClassify(m.t, w.sigs[f]).Size; at < m.size; at++ {
		c.above = append(c.above, m.bytes[at])
	}
	return c
}

func (w *watcher) calls(m *slowMachine, f int) {
	if w == nil {
		return
	}
	w.live = append(w.live, w.asItIs(m, f))
	w.deepest = max(w.deepest, len(w.live))
}

// enters: by a call, or by a leap, which takes the place of what leapt.
func (w *watcher) enters(f int) {
	if w == nil {
		return
	}
	if last := &w.live[len(w.live)-1]; last.f != f {
		last.f = f
		w.leaps++
	}
}

func (w *watcher) comesBack(m *slowMachine) {
	if w == nil {
		return
	}
	last := w.live[len(w.live)-1]
	w.live = w.live[:len(w.live)-1]
	now := w.asItIs(m, last.f)
	if above := len(last.above); len(now.above) > above { // a leap may have gone to a function of a smaller area
		now.above = now.above[len(now.above)-above:]
	}
	if now.sp != last.sp || !slices.Equal(now.saves, last.saves) || !slices.Equal(now.above, last.above) {
		w.blame("a call of the function %d does not keep what it must: %+v, then %+v", last.f, last, now)
	}
}

// looks at SP: the function at work may have its frame and its return address below where it was called, and no more.
func (w *watcher) looks(sp uint64) {
	if w == nil || len(w.live) == 0 {
		return
	}
	last := w.live[len(w.live)-1]
	if deep := int(last.sp) - int(sp); deep > w.frames[last.f].Size+pushedBytes(w.t) {
		w.blame("the function %d is %d bytes deep, its frame being %+v", last.f, deep, w.frames[last.f])
	}
}
