package interpret

import (
	"prologue/api"
	"prologue/memory"
)

// frame of a function that was entered and not left: what its locals and slots have, the next instruction, and the locals of its caller into which comes what it gives.
type frame struct {
	blocks      [][]api.Ins
	block, next int
	locals      []uint64
	slots       []memory.Bytes
	outs        []int
}

// newFrame lays the words of the arguments, one behind the other, into locals and slots.
func newFrame(f api.Func, words []uint64, outs []int) *frame {
	x := &frame{blocks: f.Blocks, locals: make([]uint64, len(f.Homes)), outs: outs}
	for _, n := range f.Slots {
		x.slots = append(x.slots, make(memory.Bytes, 8*n))
	}
	for _, p := range f.Params {
		if p.Words == 0 {
			x.locals[p.To] = words[0]
			words = words[1:]
			continue
		}
		x.fill(x.slots[p.To], words[:p.Words])
		words = words[p.Words:]
	}
	return x
}

// fill, load and store ask for no error: the program's check has seen to it that all is in its slot.
func (x *frame) fill(slot memory.Bytes, words []uint64) {
	for k, v := range words {
		slot.Store(8*k, 8, v)
	}
}

func (x *frame) load(i api.Ins) {
	x.locals[i.D], _ = x.slots[i.A].Load(i.B, int(i.N))
}

func (x *frame) store(i api.Ins) {
	x.slots[i.A].Store(i.B, int(i.N), x.locals[i.D])
}

func (x *frame) fetch() api.Ins {
	i := x.blocks[x.block][x.next]
	x.next++
	return i
}

func (x *frame) goTo(block int) { x.block, x.next = block, 0 }

func (x *frame) fork(i api.Ins) {
	if x.locals[i.D] != 0 {
		x.goTo(i.A)
	} else {
		x.goTo(i.B)
	}
}

// words of arguments, one behind the other: a copy, of which nobody else knows.
func (x *frame) words(args []api.Arg) []uint64 {
	var l []uint64
	for _, a := range args {
		if a.Words == 0 {
			l = append(l, x.locals[a.From])
			continue
		}
		for k := range a.Words {
			v, _ := x.slots[a.From].Load(8*k, 8)
			l = append(l, v)
		}
	}
	return l
}

func (x *frame) values(locals []int) []uint64 {
	var l []uint64
	for _, k := range locals {
		l = append(l, x.locals[k])
	}
	return l
}

func (x *frame) set(locals []int, values []uint64) {
	for n, k := range locals {
		x.locals[k] = values[n]
	}
}
