// Package word: what comes of two words, in a program and in a machine alike.
package word

import "prologue/api"

// Reckon: what the operation from api.Add to api.Same makes of two words; 0, if it is no such one.
func Reckon(op int, a, b uint64) uint64 {
	switch op {
	case api.Add:
		return a + b
	case api.Sub:
		return a - b
	case api.Mul:
		return a * b
	case api.And:
		return a & b
	case api.Xor:
		return a ^ b
	case api.Less:
		return truth(a < b)
	case api.Same:
		return truth(a == b)
	}
	return 0
}

func truth(yes bool) uint64 {
	if yes {
		return 1
	}
	return 0
}
