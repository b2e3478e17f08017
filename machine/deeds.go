package machine

import (
	"prologue/api"
	"prologue/word"
)

// deeds: what each instruction does, by its number.
type deeds [api.Stop + 1]func(*machine, api.Move)

func allDeeds() deeds {
	return deeds{
		api.Li:    (*machine).li,
		api.Mov:   (*machine).mov,
		api.Add:   (*machine).reckon,
		api.Sub:   (*machine).reckon,
		api.Mul:   (*machine).reckon,
		api.And:   (*machine).reckon,
		api.Xor:   (*machine).reckon,
		api.Less:  (*machine).reckon,
		api.Same:  (*machine).reckon,
		api.Ld:    (*machine).ld,
		api.St:    (*machine).st,
		api.Ldx:   (*machine).ldx,
		api.Lea:   (*machine).lea,
		api.Sp:    (*machine).moveSP,
		api.Calls: (*machine).callFunc,
		api.Exts:  (*machine).ask,
		api.Jump:  (*machine).jump,
		api.Fork:  (*machine).fork,
		api.Ret:   (*machine).ret,
		api.Leap:  (*machine).leap,
		api.Stop:  (*machine).stop,
	}
}

// named: how many of R, A and B are registers, by the number of the instruction.
var named = [api.Stop + 1]int{
	api.Li:   1,
	api.Mov:  2,
	api.Add:  3,
	api.Sub:  3,
	api.Mul:  3,
	api.And:  3,
	api.Xor:  3,
	api.Less: 3,
	api.Same: 3,
	api.Ld:   1,
	api.St:   1,
	api.Ldx:  2,
	api.Lea:  1,
	api.Fork: 1,
}

// knows tells whether there are such an instruction and the registers that it names.
func (m *machine) knows(i api.Move) bool {
	if !isIndex(i.Op, len(m.does)) || m.does[i.Op] == nil {
		return false
	}
	registers := [...]int{i.R, i.A, i.B}
	for _, r := range registers[:named[i.Op]] {
		if !isIndex(r, m.t.Regs) {
			return false
		}
	}
	return true
}

func (m *machine) li(i api.Move) { m.set(i.R, uint64(i.N)) }

func (m *machine) mov(i api.Move) { m.set(i.R, m.regs[i.A]) }

func (m *machine) reckon(i api.Move) { m.set(i.R, word.Reckon(i.Op, m.regs[i.A], m.regs[i.B])) }

func (m *machine) ld(i api.Move) { m.setLoaded(i.R, m.sp()+uint64(i.N), i.W) }

func (m *machine) st(i api.Move) { m.store(m.sp()+uint64(i.N), i.W, m.regs[i.R]) }

func (m *machine) ldx(i api.Move) { m.setLoaded(i.R, m.regs[i.A]+uint64(i.N), 8) }

func (m *machine) setLoaded(r int, at uint64, width int) {
	if v, ok := m.load(at, width); ok {
		m.set(r, v)
	}
}

func (m *machine) lea(i api.Move) { m.set(i.R, m.sp()+uint64(i.N)) }

func (m *machine) moveSP(i api.Move) { m.setSP(m.sp() + uint64(i.N)) }

func (m *machine) callFunc(i api.Move) { m.call(i.F, m.calls.numbers[m.next]) }

func (m *machine) jump(i api.Move) { m.goTo(i.A) }

func (m *machine) fork(i api.Move) {
	if m.regs[i.R] != 0 {
		m.goTo(i.A)
	} else {
		m.goTo(i.B)
	}
}

// goTo asks for no such block: that there is none is found out at the next step.
func (m *machine) goTo(block int) { m.next.block, m.next.at = block, 0 }

func (m *machine) ret(api.Move) {
	number, ok := m.takeNumber()
	switch {
	case !ok:
	case number == 0:
		m.finish()
	case number > uint64(len(m.calls.behind)):
		m.fault(api.FaultReturn)
	default:
		m.next = m.calls.behind[number-1]
	}
}

func (m *machine) leap(i api.Move) { m.enter(i.F) }

func (m *machine) stop(i api.Move) { m.end(api.Trapped, uint64(i.N)) }
