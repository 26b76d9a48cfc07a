package flat

import (
	"fishplate/api"
	"fishplate/insn"
)

// What an instruction does: each Op, in the order of layer 21's table.
const (
	set = iota + 1
	setLong
	setPlace
	load
	store
	loadByte
	storeByte
	move
	add
	sub
	addNumber
	compare
	jump
	jumpSame
	jumpOther
	jumpBelow
	call
	callRegister
	back
	system
)

// step does a step; false, if it is stuck: then nothing is done.
func (m *machine) step() bool {
	x, ok := insn.Decode(m.code(m.Ip))
	if !ok {
		return false
	}
	next := m.Ip + uint64(x.Len)
	switch field := uint64(x.Imm); x.Op {
	case setPlace:
		m.Regs[x.R] = next + field
	case load, store, loadByte, storeByte:
		ok = m.access(x, m.Regs[x.M]+field)
	case jump, jumpSame, jumpOther, jumpBelow:
		if m.jumps(x.Op) {
			next += field
		}
	case call:
		ok = m.push(next)
		next += field
	case callRegister:
		// It is taken ahead of the call, which changes rsp.
		to := m.Regs[x.M]
		ok = m.push(next)
		next = to
	case back:
		next, ok = m.pop()
	case system:
		ok = m.callSystem()
	default:
		m.compute(x)
	}
	if ok {
		m.Ip = next
	}
	return ok
}

// compute does an instruction that is on registers alone.
func (m *machine) compute(x insn.Insn) {
	to, from, number := &m.Regs[x.M], m.Regs[x.R], uint64(x.Imm)
	switch x.Op {
	case set, setLong:
		*to = number
	case move:
		*to = from
	case add:
		m.add(to, from)
	case addNumber:
		m.add(to, number)
	case sub:
		m.hold(*to, from)
		*to -= from
	case compare:
		m.hold(*to, from)
	}
}

// add adds a number, and sets flags by the sum.
func (m *machine) add(to *uint64, number uint64) {
	*to += number
	// A sum that was too great is less than each of both now.
	m.same, m.below = *to == 0, *to < number
}

// hold sets flags by holding a number against another one.
func (m *machine) hold(a, b uint64) { m.same, m.below = a == b, a < b }

// jumps tells whether a jump is done.
func (m *machine) jumps(op int) bool {
	switch op {
	case jumpSame:
		return m.same
	case jumpOther:
		return !m.same
	case jumpBelow:
		return m.below
	}
	return true
}

// access reads, or writes, at an address.
func (m *machine) access(x insn.Insn, addr uint64) bool {
	width := 8
	if x.Op == loadByte || x.Op == storeByte {
		width = 1
	}
	if x.Op == store || x.Op == storeByte {
		return m.write(addr, m.Regs[x.R], width)
	}
	v, ok := m.read(addr, width)
	if ok {
		m.Regs[x.R] = v
	}
	return ok
}

// push lays a number on the stack's top, wherever rsp tells that it is.
func (m *machine) push(v uint64) bool {
	top := m.Regs[rsp] - 8
	ok := m.write(top, v, 8)
	if ok {
		m.Regs[rsp] = top
	}
	return ok
}

// pop takes the number from there.
func (m *machine) pop() (uint64, bool) {
	v, ok := m.read(m.Regs[rsp], 8)
	if ok {
		m.Regs[rsp] += 8
	}
	return v, ok
}

// callSystem reads from the tape, tells a number, or ends.
func (m *machine) callSystem() bool {
	kind := m.Regs[rax]
	switch kind {
	case 0:
		m.Regs[rax] = m.readTape()
		m.tell(0, m.Regs[rax])
	case 60:
		m.Status = hasEnded
		fallthrough
	case 1:
		m.tell(int(kind), m.Regs[rdi])
	default:
		return false
	}
	return true
}

// readTape tells the next byte of the tape, or the greatest number, if there is none.
func (m *machine) readTape() uint64 {
	if len(m.tape) == 0 {
		return 1<<64 - 1
	}
	b := m.tape[0]
	m.tape = m.tape[1:]
	return uint64(b)
}

// tell tells an event.
func (m *machine) tell(kind int, v uint64) {
	m.Events = append(m.Events, api.Event{Kind: kind, Val: v})
}
