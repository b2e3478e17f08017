package codec

import (
	"prologue/api"
	"prologue/program"
)

type writer struct{ bytes []byte }

// Encode a program.
func Encode(p api.Program) (s string, err error) {
	defer func() {
		if thrown := recover(); thrown != nil {
			s, err = "", thrown.(wrong).err
		}
	}()
	w := &writer{}
	w.program(p)
	if len(w.bytes) > api.MaxBytes {
		w.refuse()
	}
	return string(w.bytes), nil
}

func (w *writer) refuse() { panic(wrong{api.ErrSize}) }

// number: -1, where it may stand, becomes 255.
func (w *writer) number(v, least, most int) {
	if v < least || v > most {
		w.refuse()
	}
	w.bytes = append(w.bytes, byte(v))
}

// writeList: how many there are, and each by the function one.
func writeList[T any](w *writer, list []T, least, most int, one func(T)) {
	w.number(len(list), least, most)
	for _, x := range list {
		one(x)
	}
}

func (w *writer) program(p api.Program) {
	w.bytes = append(w.bytes, first, second)
	writeList(w, p.Externs, 0, api.MaxExterns, w.sig)
	writeList(w, p.Funcs, 1, api.MaxFuncs, w.function)
}

func (w *writer) sig(s api.Sig) {
	writeList(w, s.Params, 0, api.MaxParams, w.words)
	w.number(s.Results, 0, api.MaxResults)
}

func (w *writer) function(f api.Func) {
	writeList(w, f.Params, 0, api.MaxParams, w.param)
	w.number(f.Results, 0, api.MaxResults)
	writeList(w, f.Homes, 0, api.MaxLocals, w.home)
	writeList(w, f.Slots, 0, api.MaxSlots, w.slot)
	writeList(w, f.Blocks, 1, api.MaxBlocks, w.block)
}

func (w *writer) words(n int) { w.number(n, 0, api.MaxWords) }

func (w *writer) anyByte(n int) { w.number(n, 0, maxByte) }

func (w *writer) home(r int) { w.number(r, -1, maxHome) }

func (w *writer) slot(words int) { w.number(words, 1, api.MaxWords) }

func (w *writer) param(p api.Param) {
	w.words(p.Words)
	w.anyByte(p.To)
}

func (w *writer) arg(a api.Arg) {
	w.words(a.Words)
	w.anyByte(a.From)
}

func (w *writer) block(list []api.Ins) {
	writeList(w, list, 1, api.MaxCode, w.instruction)
}

func (w *writer) instruction(i api.Ins) {
	w.number(i.Op, api.Const, api.Trap)
	if program.HasSpare(i) {
		w.refuse()
	}
	needs := program.Needs(i.Op)
	if needs.Has(program.D) {
		w.anyByte(i.D)
	}
	if needs.Has(program.A) {
		w.anyByte(i.A)
	}
	if needs.Has(program.B) {
		w.anyByte(i.B)
	}
	if needs.Has(program.N) {
		w.operand(i.Op, i.N)
	}
	if needs.Has(program.F) {
		w.anyByte(i.F)
	}
	if needs.Has(program.Args) {
		writeList(w, i.Args, 0, api.MaxParams, w.arg)
	}
	if needs.Has(program.Outs) {
		writeList(w, i.Outs, 0, api.MaxResults, w.anyByte)
	}
}

func (w *writer) operand(op int, n uint64) {
	width := widthOf(op)
	if width == 1 && n > maxByte {
		w.refuse()
	}
	for k := width - 1; k >= 0; k-- {
		w.bytes = append(w.bytes, byte(n>>(8*k)))
	}
}
