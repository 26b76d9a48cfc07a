package block

import (
	"fishplate/api"
	"fishplate/insn"
)

// What an instruction does: each Op, in the order of layer 21's table.
const (
	set = iota + 1
	setLong
	setPlace
	load
	store
	loadByte
	storeByte
	move
	add
	sub
	addNumber
	compare
	jump
	jumpSame
	jumpOther
	jumpBelow
	call
	callRegister
	back
	system
)

// step does a step; false, if it is stuck: then nothing is done.
func (m *machine) step() bool {
	x, field, ok := m.fetch()
	if !ok {
		return false
	}
	next := place(m.Ip.Node, m.Ip.N+uint64(x.Len))
	switch x.Op {
	case setPlace:
		m.Regs[x.R] = field
	case load, store, loadByte, storeByte:
		ok = m.access(x, field)
	case compare:
		m.isHeld, m.left, m.right = true, m.Regs[x.M], m.Regs[x.R]
	case jump:
		next = field
	case jumpSame, jumpOther, jumpBelow:
		var does bool
		if does, ok = m.jumps(x.Op); does {
			next = field
		}
	case call:
		ok = m.push(next)
		next = field
	case callRegister:
		// It is taken ahead of the call, which changes rsp.
		to := m.Regs[x.M]
		ok = m.push(next)
		next = to
	case back:
		next, ok = m.pop()
	case system:
		ok = m.callSystem()
	default:
		ok = m.compute(x, field)
	}
	if ok {
		m.Ip = next
	}
	return ok
}

// fetch tells the instruction at Ip, and its field's value.
func (m *machine) fetch() (insn.Insn, Val, bool) {
	if !m.Ip.Ptr || m.node(m.Ip.Node).Flags&api.Exec == 0 {
		return insn.Insn{}, Val{}, false
	}
	x, ok := insn.Decode(m.code(m.Ip))
	if !ok {
		return insn.Insn{}, Val{}, false
	}
	field, ok := m.field(x)
	return x, field, ok
}

// field tells the value of the field of the instruction at Ip; none, if an edge is in it that may not be.
func (m *machine) field(x insn.Insn) (Val, bool) {
	at, next := m.Ip.N, m.Ip.N+uint64(x.Len)
	l := edgesIn(m.node(m.Ip.Node), at, next)
	switch {
	case len(l) == 0 && isByPlace(x.Op):
		return place(m.Ip.Node, next+uint64(x.Imm)), true
	case len(l) == 0:
		return number(uint64(x.Imm)), true
	case len(l) == 1 && uint64(l[0].Off) == at+uint64(x.Field) && mayHave(x.Op, l[0].Type):
		return target(l[0]), true
	}
	return Val{}, false
}

// isByPlace tells whether an instruction's number is told from the next one's place on.
func isByPlace(op int) bool { return op == setPlace || op >= jump && op <= call }

// mayHave tells whether an instruction's field may be an edge of a type.
func mayHave(op, kind int) bool {
	switch {
	case isByPlace(op):
		return kind == api.RPC32 || kind == api.RPLT32
	case op == setLong:
		return kind == api.R64
	case op == set || op >= load && op <= storeByte || op == addNumber:
		return kind == api.R32S
	}
	return false
}

// compute does an instruction that is on registers alone, and lays what comes of it into M; false, if nothing does.
func (m *machine) compute(x insn.Insn, field Val) bool {
	to, from := m.Regs[x.M], m.Regs[x.R]
	v, ok := field, true
	switch x.Op {
	case move:
		v = from
	case add:
		v, ok = sum(to, from)
	case addNumber:
		v, ok = sum(to, field)
	case sub:
		v, ok = difference(to, from)
	}
	if !ok {
		return false
	}
	m.Regs[x.M] = v
	if x.Op == add || x.Op == addNumber || x.Op == sub {
		m.isHeld = false
	}
	return true
}

// access reads, or writes, at a register and the field.
func (m *machine) access(x insn.Insn, field Val) bool {
	width := 8
	if x.Op == loadByte || x.Op == storeByte {
		width = 1
	}
	at, ok := sum(m.Regs[x.M], field)
	if !ok {
		return false
	}
	if x.Op == store || x.Op == storeByte {
		return m.write(at, m.Regs[x.R], width)
	}
	v, ok := m.read(at, width)
	if ok {
		m.Regs[x.R] = v
	}
	return ok
}

// push lays a value on the stack's top, wherever rsp tells that it is.
func (m *machine) push(v Val) bool {
	top := m.Regs[rsp]
	top.N -= 8
	ok := m.write(top, v, 8)
	if ok {
		m.Regs[rsp] = top
	}
	return ok
}

// pop takes the value from there.
func (m *machine) pop() (Val, bool) {
	v, ok := m.read(m.Regs[rsp], 8)
	if ok {
		m.Regs[rsp].N += 8
	}
	return v, ok
}

// jumps tells whether a jump is done; ok is false, if nothing comes of what was held against each other.
func (m *machine) jumps(op int) (does, ok bool) {
	if !m.isHeld {
		return false, false
	}
	if op == jumpBelow {
		return m.isBelow(m.left, m.right)
	}
	same, ok := m.areSame(m.left, m.right)
	return ok && same == (op == jumpSame), ok
}

// areSame tells whether two values are the same, if that can be told.
func (m *machine) areSame(a, b Val) (same, ok bool) {
	switch {
	case areComparable(a, b):
		return a.N == b.N, true
	case a.Ptr && b.Ptr:
		return false, m.isApart(a) && m.isApart(b)
	case a.Ptr:
		return false, b.is(0) && m.isInOrBehind(a)
	}
	return false, a.is(0) && m.isInOrBehind(b)
}

// isBelow tells whether a value is below another one, if that can be told.
func (m *machine) isBelow(a, b Val) (below, ok bool) {
	if !areComparable(a, b) || a.Ptr && !(m.isInOrBehind(a) && m.isInOrBehind(b)) {
		return false, false
	}
	return a.N < b.N, true
}

// isApart tells whether a place is in a node beside which nothing stands at its address.
func (m *machine) isApart(v Val) bool { return m.node(v.Node).Unique && m.has(v, 1) }

// isInOrBehind tells whether a place is in its node, or just behind it.
func (m *machine) isInOrBehind(v Val) bool { return v.N <= uint64(m.node(v.Node).Size) }

// callSystem reads from the tape, tells a number, or ends.
func (m *machine) callSystem() bool {
	told := m.Regs[rdi]
	switch kind := m.Regs[rax]; {
	case kind.is(0):
		m.Regs[rax] = m.readTape()
		m.tell(0, m.Regs[rax])
	case kind.is(1) && !told.Ptr:
		m.tell(1, told)
	case kind.is(60) && !told.Ptr:
		m.tell(60, told)
		m.Status = hasEnded
	default:
		return false
	}
	return true
}

// readTape tells the next byte of the tape, or the greatest number, if there is none.
func (m *machine) readTape() Val {
	if len(m.tape) == 0 {
		return number(1<<64 - 1)
	}
	b := m.tape[0]
	m.tape = m.tape[1:]
	return number(uint64(b))
}

// tell tells an event of a number.
func (m *machine) tell(kind int, v Val) {
	m.Events = append(m.Events, api.Event{Kind: kind, Val: v.N})
}
