// Package frame: where the parts of a function's frame stand.
package frame

import (
	"slices"

	"prologue/api"
	"prologue/layout"
	"prologue/program"
)

// Lay out the frame of the function f of a program.
func Lay(t api.Table, p api.Program, f int) (api.Frame, error) {
	if err := program.Check(t, p); err != nil {
		return api.Frame{}, err
	}
	if f < 0 || f >= len(p.Funcs) {
		return api.Frame{}, api.ErrArg
	}
	return Of(t, p, f)
}

// Of a function: Lay for those who know that the program may be and has this function.
func Of(t api.Table, p api.Program, f int) (api.Frame, error) {
	x := parts(t, p.Funcs[f], called(t, p, f))
	if x.Size > api.MaxFrame {
		return api.Frame{}, &api.Bad{Err: api.ErrFrame, Func: f, Block: -1, At: -1}
	}
	return x, nil
}

// parts: calls are the layouts of all that the function calls.
func parts(t api.Table, f api.Func, calls []api.Layout) api.Frame {
	x := api.Frame{Link: -1}
	for _, l := range calls {
		x.Out, x.Copies = max(x.Out, l.Size), max(x.Copies, l.Copies)
	}
	x.Cells = x.Out + x.Copies
	at := x.Cells + 8*len(f.Homes)
	for _, words := range f.Slots {
		x.Slots = append(x.Slots, at)
		at += 8 * words
	}
	for _, r := range saved(t, f) {
		x.Saves = append(x.Saves, api.Kept{Reg: r, At: at})
		at += 8
	}
	if t.Link != -1 && len(calls) > 0 {
		x.Link = at
		at += 8
	}
	x.In = roundUp(at+pushed(t), t.Align)
	x.Size = x.In - pushed(t)
	return x
}

// called: the layouts of all that a function calls and comes back from.
func called(t api.Table, p api.Program, f int) []api.Layout {
	var all []api.Layout
	own := program.Sig(p.Funcs[f])
	for _, block := range p.Funcs[f].Blocks {
		for _, i := range block {
			if s, ok := program.Callee(p, i); ok && !(i.Op == api.Tail && layout.IsJump(t, own, s)) {
				all = append(all, layout.Of(t, s))
			}
		}
	}
	return all
}

// saved: the registers that the function uses and must keep, by rising numbers.
func saved(t api.Table, f api.Func) []int {
	var l []int
	for r := range t.Regs {
		if slices.Contains(t.Saves, r) && slices.Contains(f.Homes, r) {
			l = append(l, r)
		}
	}
	return l
}

// pushed: how many bytes a return address takes on the stack.
func pushed(t api.Table) int {
	if t.Link == -1 {
		return 8
	}
	return 0
}

func roundUp(n, unit int) int { return (n + unit - 1) / unit * unit }
