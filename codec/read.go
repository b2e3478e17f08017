package codec

import (
	"prologue/api"
	"prologue/program"
)

// reader of bytes. Where something cannot be read, at stays at the byte that is to blame.
type reader struct {
	bytes string
	at    int
}

// Decode a program.
func Decode(s string) (p api.Program, err error) {
	if len(s) > api.MaxBytes {
		return api.Program{}, badAt(api.ErrSize, 0)
	}
	defer func() {
		if thrown := recover(); thrown != nil {
			p, err = api.Program{}, thrown.(wrong).err
		}
	}()
	r := &reader{bytes: s}
	p = r.program()
	if r.at < len(s) {
		r.refuse()
	}
	return p, nil
}

func badAt(e api.Errno, at int) error {
	return &api.Bad{Err: e, Func: -1, Block: -1, At: at}
}

func (r *reader) refuse() { panic(wrong{badAt(api.ErrBytes, r.at)}) }

// peek at the next byte, without going on.
func (r *reader) peek() byte {
	if r.at >= len(r.bytes) {
		r.refuse()
	}
	return r.bytes[r.at]
}

func (r *reader) number(least, most int) int {
	return r.take(int(r.peek()), least, most)
}

// take the next byte, which stands for v.
func (r *reader) take(v, least, most int) int {
	if v < least || v > most {
		r.refuse()
	}
	r.at++
	return v
}

// readList: how many there are, and each by the function one.
func readList[T any](r *reader, least, most int, one func() T) []T {
	list := make([]T, r.number(least, most))
	for k := range list {
		list[k] = one()
	}
	return list
}

func (r *reader) program() api.Program {
	r.number(first, first)
	r.number(second, second)
	externs := readList(r, 0, api.MaxExterns, r.sig)
	return api.Program{Externs: externs, Funcs: readList(r, 1, api.MaxFuncs, r.function)}
}

// sig and what follows below read field by field, as the bytes stand in this order.
func (r *reader) sig() api.Sig {
	var s api.Sig
	s.Params = readList(r, 0, api.MaxParams, r.words)
	s.Results = r.number(0, api.MaxResults)
	return s
}

func (r *reader) function() api.Func {
	var f api.Func
	f.Params = readList(r, 0, api.MaxParams, r.param)
	f.Results = r.number(0, api.MaxResults)
	f.Homes = readList(r, 0, api.MaxLocals, r.home)
	f.Slots = readList(r, 0, api.MaxSlots, r.slot)
	f.Blocks = readList(r, 1, api.MaxBlocks, r.block)
	return f
}

func (r *reader) words() int { return r.number(0, api.MaxWords) }

func (r *reader) anyByte() int { return r.number(0, maxByte) }

// home: the byte 255 stands for -1, and those below it, taken with a sign, are as far out of bounds as without one.
func (r *reader) home() int { return r.take(int(int8(r.peek())), -1, maxHome) }

func (r *reader) slot() int { return r.number(1, api.MaxWords) }

func (r *reader) param() api.Param {
	var p api.Param
	p.Words = r.words()
	p.To = r.anyByte()
	return p
}

func (r *reader) arg() api.Arg {
	var a api.Arg
	a.Words = r.words()
	a.From = r.anyByte()
	return a
}

func (r *reader) block() []api.Ins {
	return readList(r, 1, api.MaxCode, r.instruction)
}

func (r *reader) instruction() api.Ins {
	i := api.Ins{Op: r.number(api.Const, api.Trap)}
	needs := program.Needs(i.Op)
	if needs.Has(program.D) {
		i.D = r.anyByte()
	}
	if needs.Has(program.A) {
		i.A = r.anyByte()
	}
	if needs.Has(program.B) {
		i.B = r.anyByte()
	}
	if needs.Has(program.N) {
		i.N = r.operand(i.Op)
	}
	if needs.Has(program.F) {
		i.F = r.anyByte()
	}
	if needs.Has(program.Args) {
		i.Args = readList(r, 0, api.MaxParams, r.arg)
	}
	if needs.Has(program.Outs) {
		i.Outs = readList(r, 0, api.MaxResults, r.anyByte)
	}
	return i
}

func (r *reader) operand(op int) uint64 {
	var n uint64
	for range widthOf(op) {
		n = n<<8 | uint64(r.anyByte())
	}
	return n
}
