package table

import (
	"slices"

	"prologue/api"
)

// The bounds of a table's numbers.
const (
	minRegs   = 4
	maxRegs   = 16
	maxShadow = 32
	maxByRef  = 4
)

// Check tells whether a table may be.
func Check(t api.Table) error {
	if !numbersFit(t) || !listsFit(t) || !registersFit(t) {
		return api.ErrTable
	}
	return nil
}

func numbersFit(t api.Table) bool {
	return t.Regs >= minRegs && t.Regs <= maxRegs &&
		(t.Align == 8 || t.Align == 16 || t.Align == 32) &&
		t.Shadow >= 0 && t.Shadow <= maxShadow && t.Shadow%8 == 0 &&
		t.ByRef >= 0 && t.ByRef <= maxByRef
}

// listsFit is asked ahead of what compares each register with each, so that this stays short.
func listsFit(t api.Table) bool {
	return len(t.Args) <= maxArgs && len(t.Results) <= api.MaxResults && len(t.Saves) <= maxSaves
}

func registersFit(t api.Table) bool {
	own := Reserved(t)
	if !areRegisters(own, t.Regs) {
		return false
	}
	for _, l := range [][]int{t.Args, t.Results, t.Saves} {
		if !areRegisters(l, t.Regs) || meet(l, own) {
			return false
		}
	}
	return !meet(t.Saves, t.Args) && !meet(t.Saves, t.Results)
}

// Reserved: the registers that have a use of their own.
func Reserved(t api.Table) []int {
	l := []int{t.SP, t.Temps[0], t.Temps[1]}
	if t.Link != -1 {
		l = append(l, t.Link)
	}
	return l
}

// areRegisters: all of them there, no two the same.
func areRegisters(l []int, count int) bool {
	for i, r := range l {
		if r < 0 || r >= count || slices.Contains(l[:i], r) {
			return false
		}
	}
	return true
}

func meet(a, b []int) bool {
	for _, r := range a {
		if slices.Contains(b, r) {
			return true
		}
	}
	return false
}
