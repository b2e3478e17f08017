// Package memory: bytes that are read and written word by word.
package memory

import "prologue/api"

// Bytes of a stack, from the address 0 on.
type Bytes []byte

// New bytes, all 0.
func New(size int) (Bytes, error) {
	if size < 0 || size > api.MaxStack {
		return nil, api.ErrArg
	}
	return make(Bytes, size), nil
}

// IsWidth tells whether a word may be read or written in so many bytes.
func IsWidth(n int) bool {
	return n == 1 || n == 2 || n == 4 || n == 8
}

// Load a word of so many bytes, the lowest one first.
func (b Bytes) Load(at, width int) (uint64, error) {
	if err := b.look(at, width); err != nil {
		return 0, err
	}
	var v uint64
	for i := width - 1; i >= 0; i-- {
		v = v<<8 | uint64(b[at+i])
	}
	return v, nil
}

// Store the lowest bytes of a word.
func (b Bytes) Store(at, width int, v uint64) error {
	if err := b.look(at, width); err != nil {
		return err
	}
	for i := range width {
		b[at+i] = byte(v >> (8 * i))
	}
	return nil
}

// look subtracts rather than adds, as at + width may wrap round.
func (b Bytes) look(at, width int) error {
	if !IsWidth(width) {
		return api.ErrArg
	}
	if at < 0 || at > len(b)-width {
		return api.ErrSpace
	}
	return nil
}
