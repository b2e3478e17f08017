// Package codec: programs as bytes.
package codec

import "prologue/api"

// The two bytes with which a program begins.
const (
	first  = 'F'
	second = '1'
)

// The greatest number of a byte, and that of a register which may be a home.
const (
	maxByte = 255
	maxHome = 15
)

// wrong is what is thrown where something cannot be written or read.
type wrong struct{ err error }

// widthOf: in how many bytes the number N of an instruction stands.
func widthOf(op int) int {
	if op == api.Load || op == api.Store {
		return 1
	}
	return 8
}
