package prologue_test

import (
	"math/rand"
	"reflect"
	"slices"

	"prologue/api"
)

// maker of programs that may be: rows of numbers that are the same in each run of the tests choose which.
type maker struct {
	*rand.Rand
	t api.Table
	p api.Program
}

func makeProgram(seed int64, t api.Table) api.Program {
	m := maker{Rand: rand.New(rand.NewSource(seed)), t: t}
	for range m.Intn(5) {
		m.p.Externs = append(m.p.Externs, m.sig())
	}
	for range 1 + m.Intn(api.MaxFuncs) {
		m.p.Funcs = append(m.p.Funcs, m.head())
	}
	for k := range m.p.Funcs {
		for range 1 + m.Intn(5) {
			m.p.Funcs[k].Blocks = append(m.p.Funcs[k].Blocks, nil)
		}
		for b := range m.p.Funcs[k].Blocks {
			m.p.Funcs[k].Blocks[b] = m.block(k, b)
		}
	}
	return m.p
}

func (m *maker) words() int { return []int{0, 0, 0, 0, 1, 2, 3, 1 + m.Intn(8)}[m.Intn(8)] }

func (m *maker) count() int {
	if m.Intn(8) == 0 {
		return m.Intn(9)
	}
	return m.Intn(4)
}

func (m *maker) sig() api.Sig {
	s := api.Sig{Results: m.Intn(5)}
	for range m.count() {
		s.Params = append(s.Params, m.words())
	}
	return s
}

func (m *maker) head() api.Func {
	f := api.Func{Results: m.Intn(5)}
	locals := 0
	for range m.count() {
		x := api.Param{Words: m.words()}
		if x.Words > 0 && len(f.Slots) < api.MaxSlots {
			x.To = len(f.Slots)
			f.Slots = append(f.Slots, x.Words)
		} else {
			x = api.Param{To: locals}
			locals++
		}
		f.Params = append(f.Params, x)
	}
	for range m.Intn(api.MaxSlots - len(f.Slots) + 1) {
		f.Slots = append(f.Slots, 1+m.Intn(3))
	}
	locals += m.Intn(api.MaxLocals - locals + 1)
	m.mix(&f, locals)
	f.Homes = m.homes(locals)
	return f
}

// mix: so that parameters come into locals and slots in any order.
func (m *maker) mix(f *api.Func, locals int) {
	local, slot := m.Perm(locals), m.Perm(len(f.Slots))
	slots := make([]int, len(f.Slots))
	for k, words := range f.Slots {
		slots[slot[k]] = words
	}
	f.Slots = slots
	for k, x := range f.Params {
		if x.Words > 0 {
			f.Params[k].To = slot[x.To]
		} else {
			f.Params[k].To = local[x.To]
		}
	}
}

func (m *maker) homes(locals int) []int {
	var free []int
	for r := range m.t.Regs {
		if r != m.t.SP && r != m.t.Link && r != m.t.Temps[0] && r != m.t.Temps[1] {
			free = append(free, r)
		}
	}
	m.Shuffle(len(free), func(i, k int) { free[i], free[k] = free[k], free[i] })
	homes := make([]int, locals)
	for k := range homes {
		homes[k] = -1
		if len(free) > 0 && m.Intn(3) > 0 {
			homes[k], free = free[0], free[1:]
		}
	}
	return homes
}

func (m *maker) block(f, b int) []api.Ins {
	var list []api.Ins
	for range m.Intn(8) {
		if i, ok := m.inner(f); ok {
			list = append(list, i)
		}
	}
	for {
		if i, ok := m.last(f, b); ok {
			return append(list, i)
		}
	}
}

func (m *maker) number() uint64 {
	return []uint64{0, 1, 2, 1 << 63, 1<<64 - 1, uint64(m.Intn(300)), m.Uint64()}[m.Intn(7)]
}

// inner: not all functions have what each instruction needs.
func (m *maker) inner(f int) (api.Ins, bool) {
	x := m.p.Funcs[f]
	locals := len(x.Homes)
	op := 1 + m.Intn(api.Ext)
	if op >= api.Call {
		return m.call(op, f)
	}
	if locals == 0 || op >= api.Load && len(x.Slots) == 0 {
		return api.Ins{}, false
	}
	i := api.Ins{Op: op, D: m.Intn(locals)}
	switch {
	case op == api.Const:
		i.N = m.number()
	case op == api.Copy:
		i.A = m.Intn(locals)
	case op <= api.Same:
		i.A, i.B = m.Intn(locals), m.Intn(locals)
	default:
		i.A, i.N = m.Intn(len(x.Slots)), 1<<m.Intn(4)
		i.B = int(i.N) * m.Intn(8*x.Slots[i.A]/int(i.N))
	}
	return i, true
}

// callee: mostly one behind, so that most programs end.
func (m *maker) callee(f int) int {
	if m.Intn(8) > 0 && f+1 < len(m.p.Funcs) {
		f++
		return f + m.Intn(len(m.p.Funcs)-f)
	}
	return m.Intn(len(m.p.Funcs))
}

func (m *maker) call(op, f int) (api.Ins, bool) {
	i := api.Ins{Op: op}
	var s api.Sig
	if op == api.Ext {
		if len(m.p.Externs) == 0 {
			return i, false
		}
		i.F = m.Intn(len(m.p.Externs))
		s = m.p.Externs[i.F]
	} else {
		i.F = m.callee(f)
		s = sigOf(m.p.Funcs[i.F])
	}
	x := m.p.Funcs[f]
	if op != api.Tail {
		if s.Results > len(x.Homes) {
			return i, false
		}
		i.Outs = m.Perm(len(x.Homes))[:s.Results]
	} else if s.Results != x.Results {
		return i, false
	}
	var ok bool
	i.Args, ok = m.args(x, s)
	return i, ok
}

func sigOf(f api.Func) api.Sig {
	s := api.Sig{Results: f.Results}
	for _, x := range f.Params {
		s.Params = append(s.Params, x.Words)
	}
	return s
}

func (m *maker) args(f api.Func, s api.Sig) ([]api.Arg, bool) {
	var args []api.Arg
	for _, words := range s.Params {
		var from []int
		for k := range f.Homes {
			if words == 0 {
				from = append(from, k)
			}
		}
		for k, has := range f.Slots {
			if words > 0 && has == words {
				from = append(from, k)
			}
		}
		if len(from) == 0 {
			return nil, false
		}
		args = append(args, api.Arg{Words: words, From: from[m.Intn(len(from))]})
	}
	return args, true
}

func (m *maker) last(f, b int) (api.Ins, bool) {
	x := m.p.Funcs[f]
	locals := len(x.Homes)
	target := func() int {
		if m.Intn(6) > 0 && b+1 < len(x.Blocks) {
			return b + 1 + m.Intn(len(x.Blocks)-b-1)
		}
		return m.Intn(len(x.Blocks))
	}
	switch op := api.Goto + m.Intn(5); op {
	case api.Goto:
		return api.Ins{Op: op, A: target()}, true
	case api.If:
		if locals > 0 {
			return api.Ins{Op: op, D: m.Intn(locals), A: target(), B: target()}, true
		}
	case api.Return:
		i := api.Ins{Op: op}
		for range x.Results {
			if locals > 0 {
				i.Outs = append(i.Outs, m.Intn(locals))
			}
		}
		return i, len(i.Outs) == x.Results
	case api.Tail:
		return m.call(op, f)
	case api.Trap:
		return api.Ins{Op: op, N: m.number()}, m.Intn(4) == 0 || locals == 0
	}
	return api.Ins{}, false
}

func (m *maker) wordsFor(s api.Sig) []uint64 {
	var l []uint64
	for _, words := range s.Params {
		for range max(1, words) {
			l = append(l, m.number())
		}
	}
	return l
}

// leaves of a value: all numbers and lists in it, so that each can be changed by itself.
func leaves(v reflect.Value) []reflect.Value { return addLeaves(nil, v) }

func addLeaves(l []reflect.Value, v reflect.Value) []reflect.Value {
	switch v.Kind() {
	case reflect.Struct:
		for k := range v.NumField() {
			l = addLeaves(l, v.Field(k))
		}
		return l
	case reflect.Slice:
		l = append(l, v)
		for k := range v.Len() {
			l = addLeaves(l, v.Index(k))
		}
		return l
	}
	return append(l, v)
}

// leavesOf: how many numbers and lists a program has.
func leavesOf(p api.Program) int { return len(leaves(reflect.ValueOf(&p).Elem())) }

// setLeaf: a list becomes so long as the number says, if it can be.
func setLeaf(p *api.Program, k, n int) {
	v := leaves(reflect.ValueOf(p).Elem())[k]
	switch v.Kind() {
	case reflect.Int:
		v.SetInt(int64(n))
	case reflect.Uint64:
		v.SetUint(uint64(n))
	case reflect.Slice:
		if n >= 0 && n < 300 {
			room := reflect.MakeSlice(v.Type(), n, n)
			reflect.Copy(room, v)
			v.Set(room)
		}
	}
}

var edges = []int{-1 << 63, -256, -2, -1, 0, 1, 2, 3, 4, 5, 7, 8, 9, 11, 12, 13, 15, 16, 17, 18, 19, 255, 256, 1 << 32, 1<<63 - 1}

// spoil changes one number or list of a program, or of code.
func (m *maker) spoil(p any) {
	all := leaves(reflect.ValueOf(p).Elem())
	v := all[m.Intn(len(all))]
	switch v.Kind() {
	case reflect.Int, reflect.Int64:
		n := edges[m.Intn(len(edges))]
		if m.Intn(2) == 0 {
			n = int(v.Int()) + []int{-8, -4, -2, -1, 1, 2, 4, 8}[m.Intn(8)]
		}
		v.SetInt(int64(n))
	case reflect.Uint64:
		v.SetUint(uint64(edges[m.Intn(len(edges))]))
	case reflect.Slice:
		m.spoilList(v)
	}
}

// spoilList makes a list shorter, or longer by what it has at first, or by something that is 0.
func (m *maker) spoilList(v reflect.Value) {
	n := v.Len()
	fresh := reflect.MakeSlice(v.Type(), n+12, n+12)
	reflect.Copy(fresh, v)
	switch m.Intn(4) {
	case 0:
		v.Set(fresh.Slice(0, n+1))
	case 1:
		v.Set(fresh.Slice(0, n+1+m.Intn(12)))
	case 2:
		v.Set(fresh.Slice(0, max(0, n-1)))
	case 3:
		if n > 0 {
			v.Set(reflect.AppendSlice(v.Slice3(0, n, n), v.Slice(0, 1)))
		}
	}
}

// copied: a program that shares nothing with another one. Behind each list there is room, with numbers in it that are 77.
func copied(p api.Program) api.Program {
	arg, param := api.Arg{Words: 77, From: 77}, api.Param{Words: 77, To: 77}
	var q api.Program
	for _, s := range p.Externs {
		q.Externs = append(q.Externs, api.Sig{Params: roomy(s.Params, 77), Results: s.Results})
	}
	for _, f := range p.Funcs {
		g := api.Func{Params: roomy(f.Params, param), Results: f.Results, Homes: roomy(f.Homes, 77), Slots: roomy(f.Slots, 77)}
		for _, b := range f.Blocks {
			list := roomy(b, api.Ins{Op: 77})
			for k, i := range list {
				list[k].Args, list[k].Outs = roomy(i.Args, arg), roomy(i.Outs, 77)
			}
			g.Blocks = append(g.Blocks, list)
		}
		g.Blocks = roomy(g.Blocks, []api.Ins{{Op: 77}})
		q.Funcs = append(q.Funcs, g)
	}
	q.Externs, q.Funcs = roomy(q.Externs, api.Sig{Results: 77}), roomy(q.Funcs, api.Func{Results: 77})
	return q
}

// roomy: a copy with room for three more behind it, where the mark stands.
func roomy[T any](l []T, mark T) []T {
	return append(slices.Clone(l), mark, mark, mark)[:len(l)]
}

// addNumbers of a value, one behind the other: of its lists how many there are, and those in the room behind them, too.
func addNumbers(l []uint64, v reflect.Value) []uint64 {
	switch v.Kind() {
	case reflect.Struct:
		for k := range v.NumField() {
			l = addNumbers(l, v.Field(k))
		}
	case reflect.Slice:
		l = append(l, uint64(v.Len()))
		all := v.Slice(0, v.Cap())
		for k := range all.Len() {
			l = addNumbers(l, all.Index(k))
		}
	case reflect.Uint64:
		l = append(l, v.Uint())
	case reflect.Int, reflect.Int64:
		l = append(l, uint64(v.Int()))
	}
	return l
}

// untouched: asks behind a call whether a value is as it was, with all that stands behind its lists.
func untouched(x any) func() bool {
	before := addNumbers(nil, reflect.ValueOf(x))
	return func() bool { return slices.Equal(before, addNumbers(nil, reflect.ValueOf(x))) }
}

// sameProgram takes a list without anything in it as the same, be it nil or not.
func sameProgram(p, q api.Program) bool {
	return slices.EqualFunc(p.Externs, q.Externs, sameSig) && slices.EqualFunc(p.Funcs, q.Funcs, sameFunc)
}

func sameSig(a, b api.Sig) bool { return slices.Equal(a.Params, b.Params) && a.Results == b.Results }

func sameFunc(a, b api.Func) bool {
	return slices.Equal(a.Params, b.Params) && a.Results == b.Results && slices.Equal(a.Homes, b.Homes) && slices.Equal(a.Slots, b.Slots) &&
		slices.EqualFunc(a.Blocks, b.Blocks, func(x, y []api.Ins) bool { return slices.EqualFunc(x, y, sameIns) })
}

func sameIns(a, b api.Ins) bool {
	return a.Op == b.Op && a.D == b.D && a.A == b.A && a.B == b.B && a.N == b.N && a.F == b.F && slices.Equal(a.Args, b.Args) && slices.Equal(a.Outs, b.Outs)
}

func newMaker(seed int64) *maker { return &maker{Rand: rand.New(rand.NewSource(seed + 1<<40))} }
