package prologue_test

import (
	"math/big"
	"slices"
	"testing"

	"prologue/api"
	"prologue/plain"
	"prologue/prologue"
)

// slowMachine: P12 once more. All instructions stand in one row, with something that is none behind each block and each function; numbers are as large as they like; what ends a run is thrown.
type slowMachine struct {
	t      api.Table
	c      api.Code
	row    []api.Move
	starts [][]int // of each function and each block, where it stands in the row; the last one is where nothing stands
	number map[int]int
	regs   map[int]uint64
	bytes  map[int]byte
	size   int
	script []uint64
	at, f  int
	inside map[int]int // of each place in the row the function
	watch  *watcher
	o      api.Outcome
}

func slowExecute(t api.Table, c api.Code, f int, args, script []uint64, stack, steps int) api.Outcome {
	return slowWatched(t, c, f, args, script, stack, steps, nil)
}

// slowWatched: slowExecute, while somebody (or nobody) looks at what calls keep.
func slowWatched(t api.Table, c api.Code, f int, args, script []uint64, stack, steps int, watch *watcher) (o api.Outcome) {
	m := &slowMachine{t: t, c: c, number: map[int]int{}, regs: map[int]uint64{}, bytes: map[int]byte{}, size: stack, script: script, inside: map[int]int{}, watch: watch}
	m.lay()
	for r := range t.Regs {
		m.regs[r] = uint64(7000 + r)
	}
	for i := range stack {
		m.bytes[i] = byte(7*i + 3)
	}
	l := slowClassify(t, c.Sigs[f])
	own := stack - up(l.Size+l.Copies, t.Align)
	if own < 0 {
		return api.Outcome{Kind: api.Full}
	}
	defer func() {
		if x := recover(); x != nil && x != "the end" {
			panic(x)
		}
		o = m.o
	}()
	m.setReg(t.SP, uint64(own))
	for k, x := range l.Args {
		words := args[:max(1, c.Sigs[f].Params[k])]
		args = args[len(words):]
		if x.Ref {
			for n, v := range words {
				m.put(uint64(own+l.Size+x.At+8*n), 8, v)
			}
			words = []uint64{uint64(own + l.Size + x.At)}
		}
		for n, p := range x.Places {
			m.putPlace(p, words[n])
		}
	}
	m.call(f, 0)
	for m.o.Steps < steps {
		m.o.Steps++
		if m.step() {
			m.back(own, l)
		}
	}
	m.end(api.Spent, 0)
	return m.o
}

func (m *slowMachine) lay() {
	calls := 0
	for f, blocks := range m.c.Funcs {
		var places []int
		for _, b := range blocks {
			places = append(places, len(m.row))
			for _, i := range b {
				m.row = append(m.row, i)
				if i.Op == api.Calls {
					calls++
					m.number[len(m.row)] = calls
				}
			}
			m.row = append(m.row, api.Move{})
		}
		places = append(places, len(m.row))
		m.row = append(m.row, api.Move{})
		m.starts = append(m.starts, places)
		for k := places[0]; k < len(m.row); k++ {
			m.inside[k] = f
		}
	}
}

func (m *slowMachine) end(kind, code int, values ...uint64) {
	m.o.Kind, m.o.Code, m.o.Values = kind, code, values
	panic("the end")
}

func signed(v uint64) *big.Int {
	n := new(big.Int).SetUint64(v)
	if v>>63 == 1 {
		n.Sub(n, new(big.Int).Lsh(big.NewInt(1), 64))
	}
	return n
}

func (m *slowMachine) setReg(r int, v uint64) {
	if r == m.t.SP {
		if signed(v).Sign() < 0 {
			m.end(api.Full, 0)
		}
		if signed(v).Cmp(big.NewInt(int64(m.size))) > 0 {
			m.end(api.Fault, 2)
		}
		m.o.Peak = max(m.o.Peak, m.size-int(v))
		m.watch.looks(v)
	}
	m.regs[r] = v
}

// check: the place in the stack that an address is.
func (m *slowMachine) check(v uint64, width int) int {
	if !slices.Contains([]int{1, 2, 4, 8}, width) {
		m.end(api.Fault, 2)
	}
	if signed(v).Sign() < 0 {
		m.end(api.Full, 0)
	}
	if last := new(big.Int).Add(signed(v), big.NewInt(int64(width))); last.Cmp(big.NewInt(int64(m.size))) > 0 {
		m.end(api.Fault, 2)
	}
	return int(v)
}

func (m *slowMachine) get(v uint64, width int) (word uint64) {
	at := m.check(v, width)
	for k := range width {
		word += uint64(m.bytes[at+k]) << (8 * k)
	}
	return word
}

func (m *slowMachine) put(v uint64, width int, word uint64) {
	at := m.check(v, width)
	for k := range width {
		m.bytes[at+k] = byte(word >> (8 * k))
	}
}

func (m *slowMachine) sp(n int64) uint64 { return m.regs[m.t.SP] + uint64(n) }

func (m *slowMachine) getPlace(p api.Place) uint64 {
	if p.Reg < 0 {
		return m.get(m.sp(int64(p.At)), 8)
	}
	return m.regs[p.Reg]
}

func (m *slowMachine) putPlace(p api.Place, v uint64) {
	if p.Reg < 0 {
		m.put(m.sp(int64(p.At)), 8, v)
	} else {
		m.regs[p.Reg] = v
	}
}

func (m *slowMachine) align() {
	if m.regs[m.t.SP]%uint64(m.t.Align) > 0 {
		m.end(api.Fault, 3)
	}
}

func (m *slowMachine) call(f, number int) {
	m.align()
	m.watch.calls(m, f)
	if m.t.Link < 0 {
		m.setReg(m.t.SP, m.sp(-8))
		m.put(m.sp(0), 8, uint64(number))
	} else {
		m.regs[m.t.Link] = uint64(number)
	}
	m.enter(f)
}

func (m *slowMachine) enter(f int) {
	if out(f, len(m.c.Funcs)) {
		m.end(api.Fault, 1)
	}
	m.at, m.f = m.starts[f][0], f
	m.watch.enters(f)
}

func (m *slowMachine) goTo(b int) {
	places := m.starts[m.f]
	if out(b, len(places)) {
		b = len(places) - 1
	}
	m.at = places[b]
}

// back: the run's own call has come back.
func (m *slowMachine) back(own int, l api.Layout) {
	for r := range m.t.Regs {
		if slices.Contains(m.t.Saves, r) && m.regs[r] != uint64(7000+r) || r == m.t.SP && m.regs[r] != uint64(own) {
			m.end(api.Fault, 5)
		}
	}
	var values []uint64
	for _, p := range l.Results {
		values = append(values, m.getPlace(p))
	}
	m.end(api.Done, 0, values...)
}

func (m *slowMachine) outside(f int) {
	m.align()
	if out(f, len(m.c.Externs)) {
		m.end(api.Fault, 1)
	}
	l := slowClassify(m.t, m.c.Externs[f])
	e := api.Event{F: f}
	for k, x := range l.Args {
		for n := range max(1, m.c.Externs[f].Params[k]) {
			if x.Ref {
				e.Words = append(e.Words, m.get(m.getPlace(x.Places[0])+uint64(8*n), 8))
			} else {
				e.Words = append(e.Words, m.getPlace(x.Places[n]))
			}
		}
	}
	m.o.Trace = append(m.o.Trace, e)
	k := uint64(len(m.o.Trace))
	for r := range m.t.Regs {
		if r != m.t.SP && !slices.Contains(m.t.Saves, r) {
			m.regs[r] = 65536*k + uint64(r)
		}
	}
	for at := 0; at < l.Size; at += 8 {
		m.put(m.sp(int64(at)), 8, 65536*k+1000+uint64(at))
	}
	for _, p := range l.Results {
		var v uint64
		if len(m.script) > 0 {
			v, m.script = m.script[0], m.script[1:]
		}
		m.putPlace(p, v)
	}
}

// step tells whether the run's own call has come back.
func (m *slowMachine) step() bool {
	i := m.row[m.at]
	m.at++
	for k, r := range []int{i.R, i.A, i.B} {
		need := map[int]int{api.Li: 1, api.Mov: 2, api.Ld: 1, api.St: 1, api.Ldx: 2, api.Lea: 1, api.Fork: 1}[i.Op]
		if i.Op >= api.Add && i.Op <= api.Same {
			need = 3
		}
		if k < need && out(r, m.t.Regs) {
			m.end(api.Fault, 1)
		}
	}
	x, y := m.regs[i.A], m.regs[i.B]
	switch i.Op {
	case api.Li:
		m.setReg(i.R, uint64(i.N))
	case api.Mov:
		m.setReg(i.R, x)
	case api.Add:
		m.setReg(i.R, x+y)
	case api.Sub:
		m.setReg(i.R, x-y)
	case api.Mul:
		m.setReg(i.R, x*y)
	case api.And:
		m.setReg(i.R, x&y)
	case api.Xor:
		m.setReg(i.R, x^y)
	case api.Less, api.Same:
		v := uint64(0)
		if i.Op == api.Less && x < y || i.Op == api.Same && x == y {
			v = 1
		}
		m.setReg(i.R, v)
	case api.Ld:
		m.setReg(i.R, m.get(m.sp(i.N), i.W))
	case api.St:
		m.put(m.sp(i.N), i.W, m.regs[i.R])
	case api.Ldx:
		m.setReg(i.R, m.get(x+uint64(i.N), 8))
	case api.Lea:
		m.setReg(i.R, m.sp(i.N))
	case api.Sp:
		m.setReg(m.t.SP, m.sp(i.N))
	case api.Calls:
		m.call(i.F, m.number[m.at])
	case api.Exts:
		m.outside(i.F)
	case api.Jump:
		m.goTo(i.A)
	case api.Fork:
		if m.regs[i.R] == 0 {
			i.A = i.B
		}
		m.goTo(i.A)
	case api.Ret:
		return m.ret()
	case api.Leap:
		m.enter(i.F)
	case api.Stop:
		m.end(api.Trapped, 0, uint64(i.N))
	default:
		m.end(api.Fault, 1)
	}
	return false
}

func (m *slowMachine) ret() bool {
	number := m.regs[m.t.Link]
	if m.t.Link < 0 {
		number = m.get(m.sp(0), 8)
		m.setReg(m.t.SP, m.sp(8))
	}
	m.watch.comesBack(m)
	for at, n := range m.number {
		if uint64(n) == number {
			m.at, m.f = at, m.inside[at]
			return false
		}
	}
	if number != 0 {
		m.end(api.Fault, 4)
	}
	return true
}

// makeCode: mostly functions that take a frame, do something, and give it back; now and then nothing fits.
func makeCode(m *maker, t api.Table) api.Code {
	m.t = t
	var c api.Code
	for range m.Intn(4) {
		c.Externs = append(c.Externs, m.sig())
	}
	for range 1 + m.Intn(3) {
		c.Sigs = append(c.Sigs, m.sig())
	}
	for range c.Sigs {
		c.Funcs = append(c.Funcs, m.codeOf(c))
	}
	return c
}

func (m *maker) codeOf(c api.Code) [][]api.Move {
	size := int64(m.t.Align*(1+m.Intn(6)) - pushedBytes(m.t))
	count := 1 + m.Intn(3)
	var blocks [][]api.Move
	for b := range count {
		var moves []api.Move
		if b == 0 && m.Intn(8) > 0 {
			moves = append(moves, sp(-size))
			if m.t.Link != -1 {
				moves = append(moves, st(m.t.Link, size-8, 8))
			}
		}
		for range m.Intn(7) {
			moves = append(moves, m.move(c, count))
		}
		if b < count-1 && m.Intn(4) > 0 {
			moves = append(moves, []api.Move{jump(b + 1), fork(m.register(), b+1, count-1)}[m.Intn(2)])
		} else if m.Intn(8) > 0 {
			if m.t.Link != -1 {
				moves = append(moves, ld(m.t.Link, size-8, 8))
			}
			moves = append(moves, sp(size), []api.Move{ret(), ret(), ret(), leap(m.Intn(len(c.Sigs)))}[m.Intn(4)])
		}
		blocks = append(blocks, moves)
	}
	return blocks
}

// register: mostly one that is free to use.
func (m *maker) register() int {
	if m.Intn(60) == 0 {
		return edges[m.Intn(len(edges))]
	}
	for {
		r := m.Intn(m.t.Regs)
		if r != m.t.SP && r != m.t.Link && !slices.Contains(m.t.Saves, r) || m.Intn(40) == 0 {
			return r
		}
	}
}

func (m *maker) offset() int64 {
	if m.Intn(30) == 0 {
		return int64(edges[m.Intn(len(edges))])
	}
	if m.Intn(6) == 0 {
		return int64(m.Intn(80) - 40)
	}
	return int64(8 * m.Intn(5))
}

func (m *maker) width() int { return []int{8, 8, 8, 8, 8, 4, 2, 1, 8, 8, 8, 8, 8, 4, 2, 3}[m.Intn(16)] }

// some: mostly a number below the count.
func (m *maker) some(count int) int {
	if count == 0 || m.Intn(25) == 0 {
		return m.Intn(count+3) - 1
	}
	return m.Intn(count)
}

func (m *maker) move(c api.Code, blocks int) api.Move {
	i := api.Move{Op: 1 + m.Intn(api.Exts), R: m.register(), A: m.register(), B: m.register(), N: m.offset(), W: m.width()}
	switch i.Op {
	case api.Li:
		i.N = int64(m.number())
	case api.Ldx:
		if m.Intn(3) > 0 {
			i.A = m.t.SP
		}
	case api.Sp:
		i.N = int64(m.t.Align * (m.Intn(5) - 2))
	case api.Calls:
		i.F = m.some(len(c.Sigs))
	case api.Exts:
		i.F = m.some(len(c.Externs))
	}
	if m.Intn(30) == 0 {
		return []api.Move{{Op: m.Intn(30) - 2}, jump(m.some(blocks)), fork(i.R, m.some(blocks), m.some(blocks)), leap(m.some(len(c.Sigs))), ret(), stop(i.N)}[m.Intn(6)]
	}
	return i
}

// copiedCode shares nothing with another one; behind each list there is room.
func copiedCode(c api.Code) api.Code {
	sigs := func(l []api.Sig) []api.Sig {
		l = roomy(l, api.Sig{Results: 77})
		for k, s := range l {
			l[k].Params = roomy(s.Params, 77)
		}
		return l
	}
	d := api.Code{Sigs: sigs(c.Sigs), Externs: sigs(c.Externs), Funcs: roomy(c.Funcs, nil)}
	for k, blocks := range d.Funcs {
		d.Funcs[k] = roomy(blocks, nil)
		for b, moves := range blocks {
			d.Funcs[k][b] = roomy(moves, api.Move{Op: 77})
		}
	}
	return d
}

func TestP12ManyCodes(t *testing.T) {
	kinds, faults, events := map[int]int{}, map[int]int{}, 0
	for seed := range int64(6000) {
		m := newMaker(seed + 1<<20)
		table := []api.Table{tableT(), tableU(), makeTable(m), makeTable(m)}[seed%4]
		c := copiedCode(makeCode(m, table))
		f := m.Intn(len(c.Funcs))
		args, script := roomy(m.wordsFor(c.Sigs[f]), 77), roomy(m.wordsFor(api.Sig{Params: []int{m.Intn(9), 0}}), 77)
		stack, steps := 32*m.Intn(30), []int{m.Intn(30), 200}[m.Intn(2)]
		code, words, told := untouched(c), untouched(args), untouched(script)
		want := slowExecute(table, c, f, args, script, stack, steps)
		o, err := prologue.Execute(table, c, f, args, script, stack, steps)
		if err != nil || !sameOutcome(o, want) {
			t.Fatalf("seed %d: Execute(%+v, %+v, %d, %v, %v, %d, %d) = %+v, %v, want %+v", seed, table, c, f, args, script, stack, steps, o, err, want)
		}
		if !code() || !words() || !told() {
			t.Fatalf("seed %d: something that was handed in was written into", seed)
		}
		kinds[o.Kind]++
		faults[o.Code]++
		events += len(o.Trace)
	}
	for kind := api.Done; kind <= api.Fault; kind++ {
		if kinds[kind] < 30 {
			t.Errorf("too few of the kind %d: %v", kind, kinds)
		}
	}
	for code := api.FaultCode; code <= api.FaultKept; code++ {
		if faults[code] < 20 {
			t.Errorf("too few of the fault %d: %v", code, faults)
		}
	}
	if events < 500 {
		t.Errorf("only %d events", events)
	}
}

// refused: whether a run may not be, by P12.
func refused(c api.Code, f int, args []uint64) bool {
	if len(c.Sigs) != len(c.Funcs) || slices.ContainsFunc(c.Sigs, sigOut) || slices.ContainsFunc(c.Externs, sigOut) || out(f, len(c.Funcs)) {
		return true
	}
	words := 0
	for _, n := range c.Sigs[f].Params {
		words += max(1, n)
	}
	return words != len(args)
}

// Code of which numbers and lists were changed: it is run as the slow machine does it, or refused.
func TestP12Spoilt(t *testing.T) {
	wrong := 0
	for seed := range int64(3000) {
		m := newMaker(seed + 1<<21)
		table := []api.Table{tableT(), tableU(), makeTable(m)}[seed%3]
		c := makeCode(m, table)
		f := m.Intn(len(c.Funcs))
		args := m.wordsFor(c.Sigs[f])
		for range 1 + m.Intn(4) {
			m.spoil(&c)
		}
		o, err := prologue.Execute(table, c, f, args, nil, 512, 100)
		if refused(c, f, args) {
			wrong++
			if !placeless(err, api.ErrArg) || !sameOutcome(o, api.Outcome{}) {
				t.Fatalf("seed %d: Execute(%+v, %+v, %d, %v) = %+v, %v", seed, table, c, f, args, o, err)
			}
		} else if want := slowExecute(table, c, f, args, nil, 512, 100); err != nil || !sameOutcome(o, want) {
			t.Fatalf("seed %d: Execute(%+v, %+v, %d, %v) = %+v, %v, want %+v", seed, table, c, f, args, o, err, want)
		}
	}
	if wrong < 300 || wrong > 2700 {
		t.Errorf("%d were refused", wrong)
	}
}

// What the caller writes into an outcome, also into its spare room, is seen nowhere else; what is handed in is not written into, nor what stands behind it (P2).
func TestP12Memory(t *testing.T) {
	c := asking(mov(0, 0), 1, 0)
	c.Sigs[0] = sig(2)
	c = copiedCode(c)
	table := tableT()
	table.Args, table.Results, table.Saves = roomy(table.Args, 77), roomy(table.Results, 77), roomy(table.Saves, 77)
	script := roomy([]uint64{31, 32, 33}, 77)
	same := []func() bool{untouched(c), untouched(table), untouched(script)}
	want := with(doneAt(25, 64, 131072, 131073), api.Event{F: 1, Words: []uint64{10, 11, 12, 20, 21, 22, 13, 14}}, api.Event{})
	o, _ := prologue.Execute(table, c, 0, nil, script, 128, 99)
	other, _ := prologue.Execute(table, c, 0, nil, script, 128, 99)
	lists := [][]uint64{o.Values[:cap(o.Values)], o.Trace[0].Words[:cap(o.Trace[0].Words)]}
	for k, l := range lists {
		for n := range l {
			l[n] = uint64(1000 + k)
		}
	}
	for k, l := range lists {
		if slices.Min(l) != uint64(1000+k) || slices.Max(l) != uint64(1000+k) {
			t.Errorf("two lists share memory: %v", lists)
		}
	}
	clear(o.Trace[:cap(o.Trace)])
	if !sameOutcome(other, want) {
		t.Errorf("behind it: %+v, want %+v", other, want)
	}
	for _, is := range same {
		if !is() {
			t.Error("something that was handed in was written into")
		}
	}
	isExecuted(t, "once more", table, c, start{script: script, stack: 128, steps: 99}, want)
	if got, f := plain.Execute(table, c, 0, nil, script, 128, 99); f != fine || !sameOutcome(got, want) {
		t.Errorf("plain: %+v, %+v", got, f)
	}
}
