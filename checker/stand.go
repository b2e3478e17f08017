package checker

import (
	"slices"

	"prologue/api"
)

// kept: what a function finds and must leave, where it is then: Saves, and the return address.
func (f function) kept() content {
	c := content{}
	for _, r := range f.t.Saves {
		c[register(r)] = term{kind: earlier, a: r}
	}
	if f.t.Link == -1 {
		c[cell(f.frame.Size)] = term{kind: comeback}
	} else {
		c[register(f.t.Link)] = term{kind: comeback}
	}
	return c
}

// arrived: what stands where the function begins.
func (f function) arrived() content {
	c := f.kept()
	for k, spot := range f.own.Args {
		for n, p := range spot.Places {
			if spot.Ref {
				c[shifted(p, f.frame.In)] = term{kind: lent, a: k}
			} else {
				c[shifted(p, f.frame.In)] = term{kind: argument, a: k, b: n}
			}
		}
	}
	return c
}

// standing: what stands where a block begins behind the first one, and ends; the locals have these terms.
func (f function) standing(locals []term) content {
	c := f.kept()
	for _, k := range f.frame.Saves {
		delete(c, register(k.Reg))
		c[cell(k.At)] = term{kind: earlier, a: k.Reg}
	}
	if f.frame.Link != -1 {
		delete(c, register(f.t.Link))
		c[cell(f.frame.Link)] = term{kind: comeback}
	}
	for k, x := range locals {
		c[f.home(k)] = x
	}
	return c
}

func (f function) home(local int) api.Place {
	if r := f.f.Homes[local]; r != -1 {
		return register(r)
	}
	return cell(f.frame.Cells + 8*local)
}

// parameter that comes into a local (words is 0) or a slot of so many words; -1, if none does.
func (f function) parameter(words, to int) int {
	return slices.Index(f.f.Params, api.Param{Words: words, To: to})
}

// atFirst: what a word has where the program's function begins.
func atFirst(parameter, word int) term {
	if parameter == -1 {
		return numberOf(0)
	}
	return term{kind: argument, a: parameter, b: word}
}

func (f function) localsAtFirst() []term {
	locals := make([]term, len(f.f.Homes))
	for k := range locals {
		locals[k] = atFirst(f.parameter(0, k), 0)
	}
	return locals
}

func (f function) slotsAtFirst() content {
	c := content{}
	for k, words := range f.f.Slots {
		for n := range words {
			c[cell(f.frame.Slots[k]+8*n)] = atFirst(f.parameter(words, k), n)
		}
	}
	return c
}

func (f function) localsAtBlock() []term {
	locals := make([]term, len(f.f.Homes))
	for k := range locals {
		locals[k] = term{kind: local, a: k}
	}
	return locals
}
