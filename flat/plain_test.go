package flat_test

import (
	"errors"
	"math/big"
	"reflect"
	"slices"
	"testing"

	"fishplate/api"
	"fishplate/exec"
	"fishplate/flat"
	"fishplate/insn"
)

// Where segments begin in these tests, and the stack.
const (
	fixedAt = 0x400000
	codeAt  = 0x401000
	dataAt  = 0x402000
	stackAt = 0x100000000
	top     = stackAt + 256
)

// Registers.
const (
	rax = iota
	rcx
	rdx
	rbx
	rsp
	rbp
	rsi
	rdi
)

// number tells a number's bytes.
func number(v, width int) []byte {
	b := make([]byte, width)
	for i := range b {
		b[i] = byte(v >> (8 * i))
	}
	return b
}

// in tells the bytes of an instruction.
func in(op, r, m, imm int) []byte {
	both := byte(8*r + m)
	four := number(imm, 4)
	switch op {
	case 1:
		return append([]byte{72, 199, 192 + byte(m)}, four...)
	case 2:
		return append([]byte{72, 184 + byte(m)}, number(imm, 8)...)
	case 3:
		return append([]byte{72, 141, 5 + 8*byte(r)}, four...)
	case 4:
		return append([]byte{72, 139, 128 + both}, four...)
	case 5:
		return append([]byte{72, 137, 128 + both}, four...)
	case 6:
		return append([]byte{72, 15, 182, 128 + both}, four...)
	case 7:
		return append([]byte{72, 136, 128 + both}, four...)
	case 8:
		return []byte{72, 137, 192 + both}
	case 9:
		return []byte{72, 1, 192 + both}
	case 10:
		return []byte{72, 41, 192 + both}
	case 11:
		return append([]byte{72, 129, 192 + byte(m)}, four...)
	case 12:
		return []byte{72, 57, 192 + both}
	case 13:
		return append([]byte{233}, four...)
	case 14, 15, 16:
		return append([]byte{15, []byte{132, 133, 130}[op-14]}, four...)
	case 17:
		return append([]byte{232}, four...)
	case 18:
		return []byte{255, 208 + byte(m)}
	case 19:
		return []byte{195}
	}
	return []byte{15, 5}
}

// put tells the instruction that lays a number into a register.
func put(m int, v uint64) []byte { return in(2, 0, m, int(v)) }

// prog tells instructions one behind the other.
func prog(l ...[]byte) []byte { return slices.Concat(l...) }

// seg tells a segment.
func seg(flags, addr, size int, data []byte) exec.Seg {
	return exec.Seg{Addr: addr, Size: size, Flags: flags, Data: data}
}

// image tells the bytes of an image.
func image(entry int, segs ...exec.Seg) []byte {
	b := []byte("\x7fELF\x02\x01\x01\x00\x00\x00\x00\x00\x00\x00\x00\x00\x02\x00\x3e\x00\x01\x00\x00\x00")
	b = append(b, number(entry, 8)...)
	b = append(b, number(64, 8)...)
	b = append(b, make([]byte, 12)...)
	for _, v := range []int{64, 56, len(segs), 0, 0, 0} {
		b = append(b, number(v, 2)...)
	}
	place := 64 + 56*len(segs)
	for _, s := range segs {
		b = append(b, number(1, 4)...)
		b = append(b, number(s.Flags, 4)...)
		for _, v := range []int{place, s.Addr, s.Addr, len(s.Data), s.Size, 1} {
			b = append(b, number(v, 8)...)
		}
		place += len(s.Data)
	}
	for _, s := range segs {
		b = append(b, s.Data...)
	}
	return b
}

// running tells an image of instructions, which it begins with, beside bytes that are fixed, and such as may be written.
func running(code []byte) []byte {
	fixed := []byte("\x01\x02\x03\x04\x05\x06\x07\x08fixed...")
	data := []byte("\x11\x12\x13\x14\x15\x16\x17\x18data....")
	return image(codeAt, seg(4, fixedAt, 16, fixed), seg(5, codeAt, len(code)+16, code), seg(6, dataAt, 64, data))
}

// machine is the chapter's, read by its words: memory is asked byte by byte.
type machine struct {
	s           flat.State
	x           exec.Image
	wrote       map[uint64]byte
	tape        []byte
	same, below bool
}

// segment tells in which segment an address is: its number; that of all of them of the stack; else -1.
func (m *machine) segment(a uint64) int {
	if a >= stackAt && a < top {
		return len(m.x.Segs)
	}
	for i, s := range m.x.Segs {
		if a >= uint64(s.Addr) && a < uint64(s.Addr+s.Size) {
			return i
		}
	}
	return -1
}

// get tells the byte at an address that is in a segment.
func (m *machine) get(a uint64) byte {
	if v, ok := m.wrote[a]; ok {
		return v
	}
	if i := m.segment(a); i < len(m.x.Segs) {
		if s := m.x.Segs[i]; a-uint64(s.Addr) < uint64(len(s.Data)) {
			return s.Data[a-uint64(s.Addr)]
		}
	}
	return 0
}

// within tells whether so many bytes are all within one segment, or the stack, and which one it is.
func (m *machine) within(a uint64, many int) (int, bool) {
	first := m.segment(a)
	for i := range many {
		if first < 0 || m.segment(a+uint64(i)) != first {
			return 0, false
		}
	}
	return first, true
}

// load reads so many bytes.
func (m *machine) load(a uint64, many int) (uint64, bool) {
	_, ok := m.within(a, many)
	v := uint64(0)
	for i := many - 1; i >= 0 && ok; i-- {
		v = 256*v + uint64(m.get(a+uint64(i)))
	}
	return v, ok
}

// store writes so many bytes.
func (m *machine) store(a, v uint64, many int) bool {
	i, ok := m.within(a, many)
	if !ok || i < len(m.x.Segs) && m.x.Segs[i].Flags != 6 {
		return false
	}
	for i := range many {
		m.wrote[a+uint64(i)] = byte(v >> (8 * i))
	}
	return true
}

// fetch tells the instruction at Ip.
func (m *machine) fetch() (insn.Insn, bool) {
	i := m.segment(m.s.Ip)
	if i < 0 || i == len(m.x.Segs) || m.x.Segs[i].Flags != 5 {
		return insn.Insn{}, false
	}
	var b []byte
	for a := m.s.Ip; m.segment(a) == i && len(b) < 20; a++ {
		b = append(b, m.get(a))
	}
	return insn.Decode(b)
}

// tooGreat tells whether the sum of two numbers is above 2^64 - 1.
func tooGreat(a, b uint64) bool {
	sum := new(big.Int).Add(new(big.Int).SetUint64(a), new(big.Int).SetUint64(b))
	return sum.Cmp(new(big.Int).Lsh(big.NewInt(1), 64)) >= 0
}

// step does a step by the chapter's words; false: it is stuck.
func (m *machine) step() bool {
	x, ok := m.fetch()
	if !ok {
		return false
	}
	g := &m.s.Regs
	r, to, imm := g[x.R], g[x.M], uint64(x.Imm)
	next := m.s.Ip + uint64(x.Len)
	on := next
	switch x.Op {
	case 1, 2:
		g[x.M] = imm
	case 3:
		g[x.R] = next + imm
	case 4, 6:
		var v uint64
		if v, ok = m.load(to+imm, map[int]int{4: 8, 6: 1}[x.Op]); ok {
			g[x.R] = v
		}
	case 5:
		ok = m.store(to+imm, r, 8)
	case 7:
		ok = m.store(to+imm, r, 1)
	case 8:
		g[x.M] = r
	case 9:
		g[x.M] = to + r
		m.same, m.below = g[x.M] == 0, tooGreat(to, r)
	case 11:
		g[x.M] = to + imm
		m.same, m.below = g[x.M] == 0, tooGreat(to, imm)
	case 10:
		g[x.M] = to - r
		m.same, m.below = to == r, to < r
	case 12:
		m.same, m.below = to == r, to < r
	case 13, 14, 15, 16:
		if []bool{true, m.same, !m.same, m.below}[x.Op-13] {
			on = next + imm
		}
	case 17, 18:
		on = next + imm
		if x.Op == 18 {
			on = to
		}
		if ok = m.store(g[rsp]-8, next, 8); ok {
			g[rsp] -= 8
		}
	case 19:
		if on, ok = m.load(g[rsp], 8); ok {
			g[rsp] += 8
		}
	case 20:
		ok = m.system()
	}
	if ok {
		m.s.Ip = on
	}
	return ok
}

// system does a call of the system.
func (m *machine) system() bool {
	g := &m.s.Regs
	e := api.Event{Kind: int(g[rax]), Val: g[rdi]}
	switch g[rax] {
	case 0:
		g[rax] = 1<<64 - 1
		if len(m.tape) > 0 {
			g[rax] = uint64(m.tape[0])
			m.tape = m.tape[1:]
		}
		e.Val = g[rax]
	case 1:
	case 60:
		m.s.Status = 1
	default:
		return false
	}
	m.s.Events = append(m.s.Events, e)
	return true
}

// plain tells the state by the chapter's words, and Run's error; 0: there is none.
func plain(b, tape []byte, n int) (flat.State, api.Code) {
	if n < 0 || n > 1000 {
		return flat.State{}, api.ErrArg
	}
	x, err := exec.Load(b)
	if err != nil {
		return flat.State{}, api.ErrForm
	}
	m := &machine{x: x, wrote: map[uint64]byte{}, tape: tape}
	m.s.Ip, m.s.Regs[rsp] = uint64(x.Entry), top
	for range n {
		if m.s.Status == 0 && !m.step() {
			m.s.Status = 2
		}
	}
	return m.s, 0
}

// same tells whether two states are one, be lists of no elements nil or not.
func same(a, b flat.State) bool {
	events := slices.Equal(a.Events, b.Events)
	a.Events, b.Events = nil, nil
	return events && reflect.DeepEqual(a, b)
}

// isCode tells whether an error is a Code itself; 0: whether it is none.
func isCode(err error, c api.Code) bool {
	if c == 0 {
		return err == nil
	}
	return err == c && errors.Is(err, c)
}

// hold holds the state behind so many steps against the plain reading, and tells it.
func hold(t *testing.T, b, tape []byte, n int) flat.State {
	t.Helper()
	want, code := plain(b, tape, n)
	got, err := flat.Run(b, tape, n)
	if !isCode(err, code) || !same(got, want) || code != 0 && !reflect.DeepEqual(got, flat.State{}) {
		t.Fatalf("Run(%q, %v, %d) = %+v, %v; want %+v, %v", b, tape, n, got, err, want, code)
	}
	return got
}

// mustRun holds the state behind so many steps against a register's number, the next place, and the Status, also by hand.
func mustRun(t *testing.T, b, tape []byte, n int, want want) flat.State {
	t.Helper()
	got := hold(t, b, tape, n)
	if got.Ip != want.ip || got.Status != want.status || !slices.Equal(got.Events, want.events) {
		t.Errorf("behind %d steps of %q: %+v; want %+v", n, b, got, want)
	}
	regs := [8]uint64{rsp: top}
	for r, v := range want.regs {
		regs[r] = v
	}
	if got.Regs != regs {
		t.Errorf("behind %d steps of %q registers are %v; want %v", n, b, got.Regs, regs)
	}
	return got
}

// want is what a state should be; registers that aren't named are as they are at first.
type want struct {
	ip     uint64
	status int
	regs   map[int]uint64
	events []api.Event
}

// counter counts on, by a fixed rule, and tells numbers below another one by where it is.
type counter uint64

func (c *counter) next(below int) int {
	*c = *c*6364136223846793005 + 1442695040888963407
	return int(*c>>33) % below
}
