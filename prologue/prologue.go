// Package prologue: calling conventions, programs that are lowered by them, and the code's check: see DOC.md.
package prologue

import (
	"prologue/api"
	"prologue/build"
	"prologue/checker"
	"prologue/codec"
	"prologue/frame"
	"prologue/interpret"
	"prologue/layout"
	"prologue/lower"
	"prologue/machine"
	"prologue/memory"
	"prologue/order"
	"prologue/program"
	"prologue/table"
)

// Stack of bytes.
type Stack struct{ bytes memory.Bytes }

// NewStack of so many bytes (P3).
func NewStack(size int) (*Stack, error) {
	b, err := memory.New(size)
	if err != nil {
		return nil, err
	}
	return &Stack{b}, nil
}

// Load a word (P3).
func (s *Stack) Load(at, width int) (uint64, error) { return s.bytes.Load(at, width) }

// Store a word (P3).
func (s *Stack) Store(at, width int, v uint64) error { return s.bytes.Store(at, width, v) }

// Parse a table's text (P4).
func Parse(text string) (api.Table, error) { return table.Parse(text) }

// Print a table (P4).
func Print(t api.Table) string { return table.Print(t) }

// CheckTable tells whether a table may be (P5).
func CheckTable(t api.Table) error { return table.Check(t) }

// Sample: a table that is built in (P5).
func Sample(k int) (api.Table, error) { return table.Sample(k) }

// Encode a program (P6).
func Encode(p api.Program) (string, error) { return codec.Encode(p) }

// Decode a program (P6).
func Decode(s string) (api.Program, error) { return codec.Decode(s) }

// CheckProgram tells whether a program may be, by a table (P7).
func CheckProgram(t api.Table, p api.Program) error { return program.Check(t, p) }

// Interpret a program (P8).
func Interpret(t api.Table, p api.Program, f int, args, script []uint64, fuel int) (api.Outcome, error) {
	return interpret.Run(t, p, f, args, script, fuel)
}

// Classify tells where arguments and results go (P9).
func Classify(t api.Table, s api.Sig) (api.Layout, error) { return layout.Classify(t, s) }

// Frame of a function (P10).
func Frame(t api.Table, p api.Program, f int) (api.Frame, error) { return frame.Lay(t, p, f) }

// Order tells moves one behind the other that do what these do all at once (P11).
func Order(t api.Table, l []api.Pair) ([]api.Pair, error) { return order.Moves(t, l) }

// Execute code (P12).
func Execute(t api.Table, c api.Code, f int, args, script []uint64, stack, steps int) (api.Outcome, error) {
	return machine.Run(t, c, f, args, script, stack, steps)
}

// Lower a program (P13).
func Lower(t api.Table, p api.Program) (api.Code, error) { return lower.Program(t, p) }

// Validate tells whether the code of a function does what the program's does (P14).
func Validate(t api.Table, p api.Program, c api.Code, f int) (bool, error) {
	return checker.Validate(t, p, c, f)
}

// Build code out of a table's text and a program's bytes (P15).
func Build(text, program string) (api.Code, error) { return build.Code(text, program) }
