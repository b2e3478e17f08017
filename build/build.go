// Package build: all of it together: a table's text and a program's bytes become code, which is checked ahead of being given out.
package build

import (
	"prologue/api"
	"prologue/checker"
	"prologue/codec"
	"prologue/lower"
	"prologue/table"
)

// Code out of a table's text and a program's bytes.
func Code(text, bytes string) (api.Code, error) {
	t, err := table.Parse(text)
	if err != nil {
		return api.Code{}, err
	}
	if err := table.Check(t); err != nil {
		return api.Code{}, err
	}
	p, err := codec.Decode(bytes)
	if err != nil {
		return api.Code{}, err
	}
	c, err := lower.Program(t, p)
	if err != nil {
		return api.Code{}, err
	}
	return taken(t, p, c)
}

// taken: the code, if the checker takes each function of it.
func taken(t api.Table, p api.Program, c api.Code) (api.Code, error) {
	for f := range p.Funcs {
		if ok, err := checker.Validate(t, p, c, f); !ok || err != nil {
			return api.Code{}, &api.Bad{Err: api.ErrWrong, Func: f, Block: -1, At: -1}
		}
	}
	return c, nil
}
