// Package lower: programs become code for a machine.
package lower

import (
	"prologue/api"
	"prologue/frame"
	"prologue/layout"
	"prologue/program"
)

// Program becomes code, by a table.
func Program(t api.Table, p api.Program) (api.Code, error) {
	if err := program.Check(t, p); err != nil {
		return api.Code{}, err
	}
	var c api.Code
	for f := range p.Funcs {
		x, err := frame.Of(t, p, f)
		if err != nil {
			return api.Code{}, err
		}
		s := program.Sig(p.Funcs[f])
		w := &writer{t: t, p: p, f: p.Funcs[f], sig: s, own: layout.Of(t, s), frame: x}
		c.Sigs = append(c.Sigs, s)
		c.Funcs = append(c.Funcs, w.function())
	}
	for _, s := range p.Externs {
		c.Externs = append(c.Externs, copied(s))
	}
	return c, nil
}

func copied(s api.Sig) api.Sig {
	return api.Sig{Params: append([]int(nil), s.Params...), Results: s.Results}
}

// function: a block that begins it, then one for each of its own.
func (w *writer) function() [][]api.Move {
	w.begin()
	blocks := [][]api.Move{w.take()}
	for _, list := range w.f.Blocks {
		for _, i := range list {
			w.instruction(i)
		}
		blocks = append(blocks, w.take())
	}
	return blocks
}
