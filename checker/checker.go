// Package checker: whether code of a function does what the program's function does. It knows nothing of how code is made.
package checker

import (
	"slices"

	"prologue/api"
	"prologue/frame"
	"prologue/layout"
	"prologue/program"
)

// Validate tells whether the code of the function f is right.
func Validate(t api.Table, p api.Program, c api.Code, f int) (bool, error) {
	if err := program.Check(t, p); err != nil {
		return false, err
	}
	if f < 0 || f >= len(p.Funcs) {
		return false, api.ErrArg
	}
	return isRight(t, p, c, f), nil
}

// isRight takes it that the program may be and has this function.
func isRight(t api.Table, p api.Program, c api.Code, f int) bool {
	x, err := frame.Of(t, p, f)
	if err != nil || !headIsRight(p, c) {
		return false
	}
	s := program.Sig(p.Funcs[f])
	fn := function{t: t, p: p, f: p.Funcs[f], sig: s, own: layout.Of(t, s), frame: x}
	return fn.blocksAreRight(c.Funcs[f])
}

// headIsRight: all that code says of functions ahead of their blocks.
func headIsRight(p api.Program, c api.Code) bool {
	if len(c.Funcs) != len(p.Funcs) || len(c.Sigs) != len(p.Funcs) {
		return false
	}
	for f, s := range c.Sigs {
		if !isSame(s, program.Sig(p.Funcs[f])) {
			return false
		}
	}
	return slices.EqualFunc(c.Externs, p.Externs, isSame)
}

func isSame(a, b api.Sig) bool {
	return a.Results == b.Results && slices.Equal(a.Params, b.Params)
}

// function that is checked, with all that is known of it ahead of its blocks.
type function struct {
	t     api.Table
	p     api.Program
	f     api.Func
	sig   api.Sig
	own   api.Layout
	frame api.Frame
}

// blocksAreRight: each by itself.
func (f function) blocksAreRight(blocks [][]api.Move) bool {
	if len(blocks) != len(f.f.Blocks)+1 || !f.first().isRight(blocks[0]) {
		return false
	}
	for k, list := range f.f.Blocks {
		if !f.behind(list).isRight(blocks[k+1]) {
			return false
		}
	}
	return true
}
