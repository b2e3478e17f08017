package prologue_test

import (
	"math"
	"testing"

	"prologue/api"
	"prologue/plain"
	"prologue/prologue"
)

// placeless: an error that tells no place is the bare number, so that nothing is around it.
func placeless(err error, want api.Errno) bool { return err == error(want) }

func TestP3Sizes(t *testing.T) {
	for _, size := range []int{-1, -65536, api.MaxStack + 1, math.MinInt, math.MaxInt} {
		if s, err := prologue.NewStack(size); s != nil || !placeless(err, api.ErrArg) {
			t.Errorf("NewStack(%d) = %v, %v", size, s, err)
		}
	}
	for _, size := range []int{0, 1, 7, 8, api.MaxStack - 1, api.MaxStack} {
		s, err := prologue.NewStack(size)
		if s == nil || err != nil {
			t.Fatalf("NewStack(%d) = %v, %v", size, s, err)
		}
		for at := range size {
			if v, err := s.Load(at, 1); v != 0 || err != nil {
				t.Fatalf("size %d: the byte %d is %d, %v", size, at, v, err)
			}
		}
		if v, err := s.Load(size, 1); v != 0 || !placeless(err, api.ErrSpace) {
			t.Errorf("size %d: behind the last byte: %d, %v", size, v, err)
		}
	}
}

// loadBytes: what a Load should be, by the bytes that a stack should have.
func loadBytes(bytes []byte, at, width int) uint64 {
	var v uint64
	for i := range width {
		v += uint64(bytes[at+i]) << (8 * i)
	}
	return v
}

func sameBytes(t *testing.T, s *prologue.Stack, bytes []byte) {
	t.Helper()
	for at, want := range bytes {
		if v, err := s.Load(at, 1); v != uint64(want) || err != nil {
			t.Fatalf("the byte %d is %#x, %v, want %#x", at, v, err, want)
		}
	}
}

func TestP3Words(t *testing.T) {
	const size = 29
	const word = 0x8899AABBCCDDEEFF
	for _, width := range []int{1, 2, 4, 8} {
		for at := -9; at <= size+1; at++ {
			s, _ := prologue.NewStack(size)
			bytes := make([]byte, size)
			for i := range bytes {
				bytes[i] = byte(i + 1)
				if err := s.Store(i, 1, uint64(i+1)); err != nil {
					t.Fatal(err)
				}
			}
			err := s.Store(at, width, word)
			if at < 0 || at+width > size {
				v, errLoad := s.Load(at, width)
				if !placeless(err, api.ErrSpace) || v != 0 || !placeless(errLoad, api.ErrSpace) {
					t.Errorf("width %d at %d: Store %v, Load %d, %v", width, at, err, v, errLoad)
				}
				sameBytes(t, s, bytes)
				continue
			}
			for i := range width {
				bytes[at+i] = byte(uint64(word) >> (8 * i))
			}
			if err != nil {
				t.Errorf("Store(%d, %d) = %v", at, width, err)
			}
			sameBytes(t, s, bytes)
			for _, w := range []int{1, 2, 4, 8} {
				for from := 0; from+w <= size; from++ {
					if v, err := s.Load(from, w); v != loadBytes(bytes, from, w) || err != nil {
						t.Fatalf("Load(%d, %d) = %#x, %v", from, w, v, err)
					}
				}
			}
		}
	}
}

func TestP3LastBytes(t *testing.T) {
	s, _ := prologue.NewStack(api.MaxStack)
	for _, width := range []int{1, 2, 4, 8} {
		last := api.MaxStack - width
		if err := s.Store(last, width, math.MaxUint64); err != nil {
			t.Errorf("Store(%d, %d) = %v", last, width, err)
		}
		if v, err := s.Load(last, width); v != math.MaxUint64>>(64-8*width) || err != nil {
			t.Errorf("Load(%d, %d) = %#x, %v", last, width, v, err)
		}
		if err := s.Store(last+1, width, 1); !placeless(err, api.ErrSpace) {
			t.Errorf("Store(%d, %d) = %v", last+1, width, err)
		}
	}
	empty, _ := prologue.NewStack(0)
	if err := empty.Store(0, 1, 1); !placeless(err, api.ErrSpace) {
		t.Errorf("Store in a stack without bytes: %v", err)
	}
}

func TestP3WrongNumbers(t *testing.T) {
	s, _ := prologue.NewStack(16)
	bytes := make([]byte, 16)
	for _, at := range []int{0, 1, 15, 16, -1, math.MinInt, math.MaxInt} {
		for _, width := range []int{-8, -1, 0, 3, 5, 6, 7, 9, 16, math.MinInt, math.MaxInt} {
			if v, err := s.Load(at, width); v != 0 || !placeless(err, api.ErrArg) {
				t.Errorf("Load(%d, %d) = %d, %v", at, width, v, err)
			}
			if err := s.Store(at, width, 1); !placeless(err, api.ErrArg) {
				t.Errorf("Store(%d, %d) = %v", at, width, err)
			}
		}
	}
	for _, at := range []int{math.MinInt, math.MinInt + 1, math.MaxInt - 7, math.MaxInt} {
		for _, width := range []int{1, 2, 4, 8} {
			if v, err := s.Load(at, width); v != 0 || !placeless(err, api.ErrSpace) {
				t.Errorf("Load(%d, %d) = %d, %v", at, width, v, err)
			}
			if err := s.Store(at, width, 1); !placeless(err, api.ErrSpace) {
				t.Errorf("Store(%d, %d) = %v", at, width, err)
			}
		}
	}
	sameBytes(t, s, bytes)
}

func TestP3StacksAreApart(t *testing.T) {
	a, _ := prologue.NewStack(8)
	b, _ := prologue.NewStack(8)
	if err := a.Store(0, 8, 5); err != nil {
		t.Fatal(err)
	}
	if v, _ := b.Load(0, 8); v != 0 {
		t.Errorf("another stack has %d", v)
	}
}

func TestP3Plain(t *testing.T) {
	if s, f := plain.NewStack(-1); s != nil || f != (plain.Fault{E: int(api.ErrArg), Func: -1, Block: -1, At: -1}) {
		t.Errorf("NewStack(-1) = %v, %+v", s, f)
	}
}
