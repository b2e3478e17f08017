package program

import (
	"slices"

	"prologue/api"
	"prologue/memory"
)

// scope of an instruction: what it may name.
type scope struct {
	p api.Program
	f api.Func
}

// firstWrong: the block and the place in it of the first instruction that may not be; -1, if there is none.
func firstWrong(p api.Program, f api.Func) (int, int) {
	s := scope{p, f}
	for block, list := range f.Blocks {
		for at, i := range list {
			if !s.fits(i, at == len(list)-1) {
				return block, at
			}
		}
	}
	return -1, -1
}

func (s scope) fits(i api.Ins, last bool) bool {
	return Needs(i.Op) != 0 && Ends(i.Op) == last && !HasSpare(i) && s.fieldsFit(i)
}

// fieldsFit takes it that there is such an instruction.
func (s scope) fieldsFit(i api.Ins) bool {
	switch i.Op {
	case api.Const:
		return s.haveLocals(i.D)
	case api.Copy:
		return s.haveLocals(i.D, i.A)
	case api.Load, api.Store:
		return s.haveLocals(i.D) && s.slotHas(i)
	case api.Call:
		return s.hasFunc(i.F) && s.callFits(i, Sig(s.p.Funcs[i.F]))
	case api.Ext:
		return isWithin(i.F, 0, len(s.p.Externs)-1) && s.callFits(i, s.p.Externs[i.F])
	case api.Goto:
		return s.hasBlock(i.A)
	case api.If:
		return s.haveLocals(i.D) && s.hasBlock(i.A) && s.hasBlock(i.B)
	case api.Return:
		return len(i.Outs) == s.f.Results && s.haveLocals(i.Outs...)
	case api.Tail:
		return s.hasFunc(i.F) && s.tailFits(i, Sig(s.p.Funcs[i.F]))
	case api.Trap:
		return true
	}
	return s.haveLocals(i.D, i.A, i.B)
}

func (s scope) haveLocals(locals ...int) bool {
	for _, l := range locals {
		if !isWithin(l, 0, len(s.f.Homes)-1) {
			return false
		}
	}
	return true
}

func (s scope) hasSlot(slot int) bool { return isWithin(slot, 0, len(s.f.Slots)-1) }

func (s scope) hasBlock(block int) bool { return isWithin(block, 0, len(s.f.Blocks)-1) }

func (s scope) hasFunc(f int) bool { return isWithin(f, 0, len(s.p.Funcs)-1) }

// slotHas subtracts rather than adds, as B + N may wrap round.
func (s scope) slotHas(i api.Ins) bool {
	if !s.hasSlot(i.A) || i.N > 8 || !memory.IsWidth(int(i.N)) {
		return false
	}
	width := int(i.N)
	return isWithin(i.B, 0, 8*s.f.Slots[i.A]-width) && i.B%width == 0
}

func (s scope) callFits(i api.Ins, called api.Sig) bool {
	return s.argsFit(i.Args, called.Params) &&
		len(i.Outs) == called.Results && s.haveLocals(i.Outs...) && areApart(i.Outs)
}

func (s scope) tailFits(i api.Ins, called api.Sig) bool {
	return s.argsFit(i.Args, called.Params) && called.Results == s.f.Results
}

func (s scope) argsFit(args []api.Arg, params []int) bool {
	if len(args) != len(params) {
		return false
	}
	for k, x := range args {
		if x.Words != params[k] || !s.hasArg(x) {
			return false
		}
	}
	return true
}

func (s scope) hasArg(x api.Arg) bool {
	if x.Words == 0 {
		return s.haveLocals(x.From)
	}
	return s.hasSlot(x.From) && s.f.Slots[x.From] == x.Words
}

func areApart(l []int) bool {
	for k, x := range l {
		if slices.Contains(l[:k], x) {
			return false
		}
	}
	return true
}
