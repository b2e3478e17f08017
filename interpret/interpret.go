// Package interpret: programs are run as they are, without a machine.
package interpret

import (
	"prologue/api"
	"prologue/program"
	"prologue/word"
)

// run of a program. The last of the frames is that of the function which is at work.
type run struct {
	funcs  []api.Func
	script []uint64
	frames []*frame
	out    api.Outcome
}

// Run the function f of a program.
func Run(t api.Table, p api.Program, f int, args, script []uint64, fuel int) (api.Outcome, error) {
	if err := program.Check(t, p); err != nil {
		return api.Outcome{}, err
	}
	if f < 0 || f >= len(p.Funcs) || len(args) != program.WordCount(program.Sig(p.Funcs[f])) {
		return api.Outcome{}, api.ErrArg
	}
	if fuel < 0 || fuel > api.MaxFuel {
		return api.Outcome{}, api.ErrArg
	}
	r := &run{funcs: p.Funcs, script: script}
	r.enter(f, args, nil)
	r.spend(fuel)
	return r.out, nil
}

func (r *run) spend(fuel int) {
	for r.out.Kind == 0 && r.out.Steps < fuel {
		r.out.Steps++
		r.step(r.frames[len(r.frames)-1])
	}
	if r.out.Kind == 0 {
		r.out.Kind = api.Spent
	}
}

func (r *run) step(f *frame) {
	i := f.fetch()
	switch i.Op {
	case api.Const:
		f.locals[i.D] = i.N
	case api.Copy:
		f.locals[i.D] = f.locals[i.A]
	case api.Load:
		f.load(i)
	case api.Store:
		f.store(i)
	case api.Call:
		r.enter(i.F, f.words(i.Args), i.Outs)
	case api.Ext:
		r.ask(f, i)
	case api.Goto:
		f.goTo(i.A)
	case api.If:
		f.fork(i)
	case api.Return:
		r.leave(f.values(i.Outs), f.outs)
	case api.Tail:
		r.drop()
		r.enter(i.F, f.words(i.Args), f.outs)
	case api.Trap:
		r.end(api.Trapped, []uint64{i.N})
	default:
		f.locals[i.D] = word.Reckon(i.Op, f.locals[i.A], f.locals[i.B])
	}
}

// enter a function with these words; outs are the locals of its caller into which comes what it gives.
func (r *run) enter(f int, words []uint64, outs []int) {
	r.frames = append(r.frames, newFrame(r.funcs[f], words, outs))
}

func (r *run) drop() { r.frames = r.frames[:len(r.frames)-1] }

func (r *run) leave(values []uint64, outs []int) {
	r.drop()
	if len(r.frames) == 0 {
		r.end(api.Done, values)
		return
	}
	r.frames[len(r.frames)-1].set(outs, values)
}

// ask somebody outside, who tells what the script says next.
func (r *run) ask(f *frame, i api.Ins) {
	r.out.Trace = append(r.out.Trace, api.Event{F: i.F, Words: f.words(i.Args)})
	told := make([]uint64, len(i.Outs))
	n := copy(told, r.script)
	r.script = r.script[n:]
	f.set(i.Outs, told)
}

func (r *run) end(kind int, values []uint64) {
	r.out.Kind = kind
	r.out.Values = values
}
