package build

import (
	"errors"
	"testing"

	"prologue/api"
	"prologue/lower"
	"prologue/table"
)

// three functions that do nothing.
func three(t *testing.T) (api.Table, api.Program, api.Code) {
	t.Helper()
	x, err := table.Sample(0)
	if err != nil {
		t.Fatal(err)
	}
	one := api.Func{Blocks: [][]api.Ins{{{Op: api.Return}}}}
	p := api.Program{Funcs: []api.Func{one, one, one}}
	c, err := lower.Program(x, p)
	if err != nil {
		t.Fatal(err)
	}
	return x, p, c
}

// Build itself cannot be brought to tell ErrWrong, as the code that Lower makes is right. So it is asked here what comes of code that is wrong.
func TestP15Wrong(t *testing.T) {
	x, p, c := three(t)
	if got, err := taken(x, p, c); err != nil || len(got.Funcs) != 3 {
		t.Errorf("code that is right: %+v, %v", got, err)
	}
	for f := 2; f >= 0; f-- {
		c.Funcs[f] = nil
		got, err := taken(x, p, c)
		var bad *api.Bad
		if !errors.Is(err, api.ErrWrong) || !errors.As(err, &bad) || *bad != (api.Bad{Err: api.ErrWrong, Func: f, Block: -1, At: -1}) {
			t.Errorf("the function %d is wrong: %v, %+v", f, err, bad)
		}
		if len(got.Funcs)+len(got.Sigs)+len(got.Externs) > 0 {
			t.Errorf("code beside an error: %+v", got)
		}
	}
}
