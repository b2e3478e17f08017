package program

import (
	"slices"

	"prologue/api"
	"prologue/table"
)

// Check tells whether a program may be, by a table. What stands ahead of the instructions is looked at in all functions first, as instructions lean on the signatures of other functions.
func Check(t api.Table, p api.Program) error {
	if err := table.Check(t); err != nil {
		return err
	}
	if !countsFit(p) {
		return api.ErrFunc
	}
	for f := range p.Funcs {
		if !headFits(t, p.Funcs[f]) {
			return badIn(f, -1, -1)
		}
	}
	for f := range p.Funcs {
		if block, at := firstWrong(p, p.Funcs[f]); block >= 0 {
			return badIn(f, block, at)
		}
	}
	return nil
}

func badIn(f, block, at int) error {
	return &api.Bad{Err: api.ErrFunc, Func: f, Block: block, At: at}
}

func countsFit(p api.Program) bool {
	if !isWithin(len(p.Funcs), 1, api.MaxFuncs) || len(p.Externs) > api.MaxExterns {
		return false
	}
	for _, s := range p.Externs {
		if !SigFits(s) {
			return false
		}
	}
	return true
}

// headFits asks for counts first, so that what compares each with each stays short.
func headFits(t api.Table, f api.Func) bool {
	return len(f.Params) <= api.MaxParams && SigFits(Sig(f)) &&
		len(f.Homes) <= api.MaxLocals && homesFit(t, f.Homes) &&
		len(f.Slots) <= api.MaxSlots && slotsFit(f.Slots) &&
		isWithin(len(f.Blocks), 1, api.MaxBlocks) && blocksFit(f.Blocks) &&
		paramsFit(f)
}

func homesFit(t api.Table, homes []int) bool {
	own := table.Reserved(t)
	for k, r := range homes {
		if r == -1 {
			continue
		}
		if !isWithin(r, 0, t.Regs-1) || slices.Contains(own, r) || slices.Contains(homes[:k], r) {
			return false
		}
	}
	return true
}

func slotsFit(slots []int) bool {
	for _, words := range slots {
		if !isWithin(words, 1, api.MaxWords) {
			return false
		}
	}
	return true
}

func blocksFit(blocks [][]api.Ins) bool {
	for _, b := range blocks {
		if !isWithin(len(b), 1, api.MaxCode) {
			return false
		}
	}
	return true
}

func paramsFit(f api.Func) bool {
	for k, x := range f.Params {
		if !comesInto(f, x) {
			return false
		}
		for _, y := range f.Params[:k] {
			if x.To == y.To && (x.Words == 0) == (y.Words == 0) {
				return false
			}
		}
	}
	return true
}

func comesInto(f api.Func, x api.Param) bool {
	if x.Words == 0 {
		return isWithin(x.To, 0, len(f.Homes)-1)
	}
	return isWithin(x.To, 0, len(f.Slots)-1) && f.Slots[x.To] == x.Words
}
