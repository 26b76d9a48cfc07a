package flat_test

import (
	"bytes"
	"math"
	"reflect"
	"slices"
	"testing"

	"fishplate/api"
	"fishplate/exec"
	"fishplate/flat"
)

const most = math.MaxUint64

// edges are numbers at which sums turn over, and others.
var edges = []uint64{0, 1, 2, 8, 1 << 31, 1<<31 - 1, 1 << 32, 1 << 63, 1<<63 - 1, most, most - 1, most - 7}

// The document's example: an event 60 of 0.
func TestExample(t *testing.T) {
	b := image(codeAt, seg(5, codeAt, 9, []byte{72, 199, 192, 60, 0, 0, 0, 15, 5}))
	end := want{codeAt + 9, 1, map[int]uint64{rax: 60}, []api.Event{{Kind: 60}}}
	mustRun(t, b, nil, 0, want{ip: codeAt})
	mustRun(t, b, nil, 1, want{ip: codeAt + 7, regs: end.regs})
	for _, n := range []int{2, 3, 10, 1000} {
		mustRun(t, b, nil, n, end)
	}
}

// P22.1: how many steps there may be; ErrArg is told ahead of ErrForm.
func TestSteps(t *testing.T) {
	// It goes round for ever, and counts.
	round := running(prog(in(11, 0, rcx, 1), in(13, 0, 0, -12)))
	for _, n := range []int{math.MinInt, -1000, -1, 1001, 1002, 1 << 31, 1 << 32, math.MaxInt} {
		for _, b := range [][]byte{round, nil, {}, round[:100]} {
			if s, err := flat.Run(b, nil, n); !isCode(err, api.ErrArg) || !reflect.DeepEqual(s, flat.State{}) {
				t.Errorf("%d steps: %+v, %v", n, s, err)
			}
		}
	}
	for _, n := range []int{0, 1, 2, 3, 500, 999, 1000} {
		mustRun(t, round, nil, n, want{ip: codeAt + uint64(n%2*7), regs: map[int]uint64{rcx: uint64(n+1) / 2}})
	}
}

// P22.1: bytes that are no image.
func TestNoImage(t *testing.T) {
	b := running(in(20, 0, 0, 0))
	for n := range b {
		hold(t, b[:n], nil, 5)
	}
	for i := range 64 + 3*56 {
		for bit := range 8 {
			turned := bytes.Clone(b)
			turned[i] ^= 1 << bit
			hold(t, turned, nil, 5)
		}
	}
	for _, b := range [][]byte{nil, {}, b[:63], b[:64+100], append([]byte{0}, b...)} {
		for _, n := range []int{0, 1, 1000} {
			if s, err := flat.Run(b, nil, n); !isCode(err, api.ErrForm) || !reflect.DeepEqual(s, flat.State{}) {
				t.Errorf("%+v, %v", s, err)
			}
		}
	}
}

// P22.1: at first, wherever the entry is, also without segments.
func TestAtFirst(t *testing.T) {
	for _, entry := range []int{0, 1, codeAt, codeAt + 5, dataAt, 1 << 31} {
		b := image(entry, seg(5, codeAt, 10, []byte{195}), seg(6, dataAt, 10, nil))
		mustRun(t, b, []byte{1, 2}, 0, want{ip: uint64(entry)})
		mustRun(t, image(entry), nil, 0, want{ip: uint64(entry)})
		for _, n := range []int{1, 2, 1000} {
			mustRun(t, image(entry), nil, n, want{ip: uint64(entry), status: 2})
		}
	}
}

// P22.1: Op 1, 2, 3 and 8, at each register, and by each number.
func TestSettingRegisters(t *testing.T) {
	for m := range 8 {
		for _, v := range []int{0, 1, -1, math.MaxInt32, math.MinInt32, 0x1234567} {
			mustRun(t, running(in(1, 0, m, v)), nil, 1, want{ip: codeAt + 7, regs: map[int]uint64{m: uint64(v)}})
			mustRun(t, running(in(2, 0, m, v)), nil, 1, want{ip: codeAt + 10, regs: map[int]uint64{m: uint64(v)}})
			mustRun(t, running(in(3, m, 0, v)), nil, 1, want{ip: codeAt + 7, regs: map[int]uint64{m: uint64(codeAt + 7 + v)}})
		}
		for _, v := range edges {
			mustRun(t, running(put(m, v)), nil, 1, want{ip: codeAt + 10, regs: map[int]uint64{m: v}})
			for r := range 8 {
				mustRun(t, running(prog(put(r, v), in(8, r, m, 0))), nil, 2, want{ip: codeAt + 13, regs: map[int]uint64{m: v, r: v}})
			}
		}
	}
}

// P22.1: Op 9, 10, 11, by each two registers, the same one also, and by each two numbers.
func TestSums(t *testing.T) {
	for _, a := range edges {
		for _, b := range edges {
			for r := range 8 {
				m := (r + 3) % 8
				two := prog(put(m, a), put(r, b))
				mustRun(t, running(prog(two, in(9, r, m, 0))), nil, 3, want{ip: codeAt + 23, regs: map[int]uint64{m: a + b, r: b}})
				mustRun(t, running(prog(two, in(10, r, m, 0))), nil, 3, want{ip: codeAt + 23, regs: map[int]uint64{m: a - b, r: b}})
				mustRun(t, running(prog(two, in(12, r, m, 0))), nil, 3, want{ip: codeAt + 23, regs: map[int]uint64{m: a, r: b}})
				mustRun(t, running(prog(two, in(9, r, r, 0))), nil, 3, want{ip: codeAt + 23, regs: map[int]uint64{m: a, r: b + b}})
				mustRun(t, running(prog(two, in(10, r, r, 0))), nil, 3, want{ip: codeAt + 23, regs: map[int]uint64{m: a, r: 0}})
			}
		}
		for _, v := range []int{0, 1, -1, -8, math.MaxInt32, math.MinInt32} {
			mustRun(t, running(prog(put(rbx, a), in(11, 0, rbx, v))), nil, 2, want{ip: codeAt + 17, regs: map[int]uint64{rbx: a + uint64(v)}})
		}
	}
}

// flags tells both flags behind some steps of instructions: by each jump, which is done, or not.
func flags(t *testing.T, code []byte, steps int) (same, below bool) {
	t.Helper()
	var done [3]bool
	for i := range done {
		s := hold(t, running(prog(code, in(14+i, 0, 0, 1000))), nil, steps+1)
		behind := uint64(codeAt + len(code) + 6)
		if s.Status != 0 || s.Ip != behind && s.Ip != behind+1000 {
			t.Fatalf("%+v", s)
		}
		done[i] = s.Ip != behind
	}
	if done[0] == done[1] {
		t.Fatalf("both, or none, of 14 and 15 jump: %v", done)
	}
	return done[0], done[2]
}

// P22.1: flags behind 9, 10, 11, 12; of 10 M as it was ahead of it.
func TestFlags(t *testing.T) {
	if same, below := flags(t, nil, 0); same || below {
		t.Errorf("at first: %v, %v", same, below)
	}
	for _, c := range []struct {
		op          int
		m, r        uint64
		same, below bool
	}{
		{9, 0, 0, true, false}, {9, 1, 2, false, false}, {9, most, 0, false, false}, {9, most, 1, true, true}, {9, 1, most, true, true}, {9, most, 2, false, true},
		{9, 1 << 63, 1 << 63, true, true}, {9, 1 << 63, 1<<63 - 1, false, false}, {9, most, most, false, true}, {9, 1<<63 + 1, 1 << 63, false, true},
		{10, 0, 0, true, false}, {10, 5, 5, true, false}, {10, 5, 3, false, false}, {10, 3, 5, false, true}, {10, 0, most, false, true}, {10, most, 0, false, false},
		{10, 1 << 63, 1, false, false}, {10, 1, 1 << 63, false, true}, {10, most, most, true, false}, {10, 6, 3, false, false}, {10, 2, 1, false, false},
		{12, 0, 0, true, false}, {12, 5, 5, true, false}, {12, 5, 3, false, false}, {12, 3, 5, false, true}, {12, 0, most, false, true}, {12, most, 0, false, false},
		{12, 1 << 63, 1, false, false}, {12, 1, 1 << 63, false, true}, {12, 1 << 31, 1<<31 - 1, false, false}, {12, 1<<31 - 1, 1 << 31, false, true},
	} {
		same, below := flags(t, prog(put(rcx, c.m), put(rdx, c.r), in(c.op, rdx, rcx, 0)), 3)
		if same != c.same || below != c.below {
			t.Errorf("%+v: %v, %v", c, same, below)
		}
	}
	for _, c := range []struct {
		m           uint64
		imm         int
		same, below bool
	}{{0, 0, true, false}, {0, 1, false, false}, {most, 1, true, true}, {most, 2, false, true}, {most - 1, 1, false, false}, {1 << 63, math.MaxInt32, false, false}, {most - math.MaxInt32, math.MaxInt32, false, false}, {most - math.MaxInt32 + 1, math.MaxInt32, true, true}} {
		same, below := flags(t, prog(put(rcx, c.m), in(11, 0, rcx, c.imm)), 2)
		if same != c.same || below != c.below {
			t.Errorf("%+v: %v, %v", c, same, below)
		}
	}
	// The number is as 64 bits, as it is in the register that it is added to.
	if same, below := flags(t, prog(put(rcx, 8), in(11, 0, rcx, -8)), 2); !same || !below {
		t.Errorf("8 and -8: %v, %v", same, below)
	}
	if same, below := flags(t, prog(put(rcx, 7), in(11, 0, rcx, -8)), 2); same || below {
		t.Errorf("7 and -8: %v, %v", same, below)
	}
	for _, op := range []int{10, 12} {
		if same, below := flags(t, prog(put(rcx, 9), in(op, rcx, rcx, 0)), 2); !same || below {
			t.Errorf("Op %d of one register: %v, %v", op, same, below)
		}
	}
}

// P22.1: no other Op sets flags, and one of 9 to 12 sets both anew.
func TestOthersSetNoFlags(t *testing.T) {
	others := [][]byte{
		in(1, 0, rbx, 0), in(2, 0, rbx, 5), in(3, rbx, 0, 3), prog(put(rsi, dataAt), in(4, rbx, rsi, 0)), prog(put(rsi, dataAt), in(5, rbx, rsi, 0)),
		prog(put(rsi, dataAt), in(6, rbx, rsi, 0)), prog(put(rsi, dataAt), in(7, rbx, rsi, 0)), in(8, rcx, rbx, 0), in(13, 0, 0, 0), in(14, 0, 0, 0), in(15, 0, 0, 0), in(16, 0, 0, 0), in(17, 0, 0, 0),
		prog(in(3, rbx, 0, 2), in(18, 0, rbx, 0)), prog(in(1, 0, rax, 0), in(20, 0, 0, 0)), prog(in(1, 0, rax, 1), in(20, 0, 0, 0)),
	}
	steps := []int{1, 1, 1, 2, 2, 2, 2, 1, 1, 1, 1, 1, 1, 2, 2, 2}
	for _, c := range []struct {
		m, r        uint64
		same, below bool
	}{{5, 5, true, false}, {3, 5, false, true}, {5, 3, false, false}} {
		held := prog(put(rcx, c.m), put(rdx, c.r), in(12, rdx, rcx, 0))
		for i, other := range others {
			same, below := flags(t, prog(held, other), 3+steps[i])
			if same != c.same || below != c.below {
				t.Errorf("%+v, behind %v: %v, %v", c, other, same, below)
			}
		}
		for _, again := range [][2]uint64{{5, 5}, {3, 5}, {5, 3}} {
			same, below := flags(t, prog(held, put(rcx, again[0]), put(rdx, again[1]), in(12, rdx, rcx, 0)), 6)
			if same != (again[0] == again[1]) || below != (again[0] < again[1]) {
				t.Errorf("%+v, then %v: %v, %v", c, again, same, below)
			}
		}
	}
	// Op 19 sets none: it goes back behind the call, where the jump is.
	back := prog(in(12, rax, rax, 0), in(17, 0, 0, 6), in(14, 0, 0, 100), in(19, 0, 0, 0))
	mustRun(t, running(back), nil, 4, want{ip: codeAt + 3 + 5 + 6 + 100})
}

// P22.1: jumps, forward and backward, by numbers at their bounds, and turning over.
func TestJumps(t *testing.T) {
	for _, v := range []int{0, 1, -1, -5, 100, math.MaxInt32, math.MinInt32} {
		mustRun(t, running(in(13, 0, 0, v)), nil, 1, want{ip: uint64(codeAt + 5 + v)})
		mustRun(t, running(in(14, 0, 0, v)), nil, 1, want{ip: codeAt + 6})
		mustRun(t, running(in(15, 0, 0, v)), nil, 1, want{ip: uint64(codeAt + 6 + v)})
		mustRun(t, running(in(16, 0, 0, v)), nil, 1, want{ip: codeAt + 6})
		equal := prog(in(12, 0, 0, 0), in(14, 0, 0, v))
		mustRun(t, running(equal), nil, 2, want{ip: uint64(codeAt + 9 + v)})
		equal = prog(in(12, 0, 0, 0), in(15, 0, 0, v))
		mustRun(t, running(equal), nil, 2, want{ip: codeAt + 9})
	}
	b := image(0, seg(5, 0, 20, in(13, 0, 0, -6)))
	mustRun(t, b, nil, 1, want{ip: most})
	mustRun(t, b, nil, 2, want{ip: most, status: 2})
}

// P22.1: Op 17, 18, 19, and what stands in memory then; of 18 by rsp M as it was ahead of it.
func TestCalls(t *testing.T) {
	mustRun(t, running(in(17, 0, 0, 20)), nil, 1, want{ip: codeAt + 25, regs: map[int]uint64{rsp: top - 8}})
	// What stands there is read.
	code := prog(in(17, 0, 0, 0), in(8, rsp, rbp, 0), in(4, rbx, rbp, 0), in(4, rcx, rbp, -8))
	mustRun(t, running(code), nil, 4, want{ip: codeAt + 22, regs: map[int]uint64{rsp: top - 8, rbp: top - 8, rbx: codeAt + 5, rcx: 0}})
	for _, m := range []int{rax, rcx, rdx, rbx, rbp, rsi, rdi} {
		const to = codeAt + 40
		mustRun(t, running(prog(put(m, to), in(18, 0, m, 0))), nil, 2, want{ip: to, regs: map[int]uint64{m: to, rsp: top - 8}})
	}
	// Of rsp: on at what rsp was, which is in the stack, or, where rsp is put so, in a segment.
	mustRun(t, running(in(18, 0, rsp, 0)), nil, 1, want{ip: top, regs: map[int]uint64{rsp: top - 8}})
	mustRun(t, running(prog(put(rsp, dataAt+16), in(18, 0, rsp, 0))), nil, 2, want{ip: dataAt + 16, regs: map[int]uint64{rsp: dataAt + 8}})
	// There and back, and what is there stays.
	code = prog(in(17, 0, 0, 7), in(1, 0, rcx, 9), in(19, 0, 0, 0))
	mustRun(t, running(code), nil, 2, want{ip: codeAt + 5})
	mustRun(t, running(code), nil, 3, want{ip: codeAt + 12, regs: map[int]uint64{rcx: 9}})
	// Back to what was laid there.
	code = prog(put(rbx, codeAt+3), in(5, rbx, rbp, 8), in(8, rbp, rsp, 0), in(11, 0, rsp, 8), in(19, 0, 0, 0))
	code = prog(put(rbp, stackAt), code)
	mustRun(t, running(code), nil, 6, want{ip: codeAt + 3, regs: map[int]uint64{rbx: codeAt + 3, rbp: stackAt, rsp: stackAt + 16}})
	// At first there is nothing to go back to; deeper there is room for 32 numbers.
	mustRun(t, running(in(19, 0, 0, 0)), nil, 1, want{ip: codeAt, status: 2})
	deep := running(in(17, 0, 0, -5))
	mustRun(t, deep, nil, 32, want{ip: codeAt, regs: map[int]uint64{rsp: stackAt}})
	mustRun(t, deep, nil, 33, want{ip: codeAt, status: 2, regs: map[int]uint64{rsp: stackAt}})
}

// P22.1: Op 20.
func TestSystem(t *testing.T) {
	read := running(prog(in(20, 0, 0, 0), in(8, rax, rbx, 0), in(1, 0, rax, 0), in(20, 0, 0, 0)))
	mustRun(t, read, nil, 1, want{codeAt + 2, 0, map[int]uint64{rax: most}, []api.Event{{Kind: 0, Val: most}}})
	mustRun(t, read, []byte{7}, 1, want{codeAt + 2, 0, map[int]uint64{rax: 7}, []api.Event{{Kind: 0, Val: 7}}})
	mustRun(t, read, []byte{7}, 4, want{codeAt + 14, 0, map[int]uint64{rax: most, rbx: 7}, []api.Event{{Kind: 0, Val: 7}, {Kind: 0, Val: most}}})
	mustRun(t, read, []byte{255, 0, 9}, 4, want{codeAt + 14, 0, map[int]uint64{rax: 0, rbx: 255}, []api.Event{{Kind: 0, Val: 255}, {Kind: 0, Val: 0}}})
	for _, v := range edges {
		write := running(prog(put(rdi, v), put(rax, 1), in(20, 0, 0, 0)))
		mustRun(t, write, []byte{5}, 3, want{codeAt + 22, 0, map[int]uint64{rax: 1, rdi: v}, []api.Event{{Kind: 1, Val: v}}})
		end := running(prog(put(rdi, v), put(rax, 60), in(20, 0, 0, 0)))
		for _, n := range []int{3, 4, 1000} {
			mustRun(t, end, []byte{5}, n, want{codeAt + 22, 1, map[int]uint64{rax: 60, rdi: v}, []api.Event{{Kind: 60, Val: v}}})
		}
		if v <= 1 {
			continue
		}
		none := running(prog(put(rax, v), in(20, 0, 0, 0)))
		for _, n := range []int{2, 3, 1000} {
			mustRun(t, none, []byte{5}, n, want{codeAt + 10, 2, map[int]uint64{rax: v}, nil})
		}
	}
	for _, v := range []uint64{59, 61, 1 << 32, 1<<32 + 1, 1<<32 + 60, 1<<63 + 60, 256 + 60} {
		mustRun(t, running(prog(put(rax, v), in(20, 0, 0, 0))), nil, 2, want{codeAt + 10, 2, map[int]uint64{rax: v}, nil})
	}
}

// P22.1, P22.3: each number of steps of a program that reads, writes, and ends.
func TestEventsOfFewerSteps(t *testing.T) {
	// Reads till there is nothing more, writes each byte, and ends with how many there were.
	code := prog(in(1, 0, rax, 0), in(20, 0, 0, 0), in(1, 0, rdx, -1), in(12, rdx, rax, 0), in(14, 0, 0, 7+3+7+2+5), in(11, 0, rcx, 1), in(8, rax, rdi, 0), in(1, 0, rax, 1), in(20, 0, 0, 0), in(13, 0, 0, -(7+2+7+3+6+7+3+7+2+5)), in(8, rcx, rdi, 0), in(1, 0, rax, 60), in(20, 0, 0, 0))
	b := running(code)
	var last []api.Event
	for n := range 60 {
		s := hold(t, b, []byte{3, 1, 4}, n)
		if len(s.Events) < len(last) || !slices.Equal(s.Events[:len(last)], last) {
			t.Fatalf("behind %d steps: %+v; behind fewer: %+v", n, s.Events, last)
		}
		last = s.Events
	}
	if !slices.Equal(last, []api.Event{{Kind: 0, Val: 3}, {Kind: 1, Val: 3}, {Kind: 0, Val: 1}, {Kind: 1, Val: 1}, {Kind: 0, Val: 4}, {Kind: 1, Val: 4}, {Kind: 0, Val: most}, {Kind: 60, Val: 3}}) {
		t.Errorf("%+v", last)
	}
}

// P22.1: as many segments as may be, one after the other.
func TestManySegments(t *testing.T) {
	var segs []exec.Seg
	for i := range 16 {
		segs = append(segs, seg(5, 100*i, 20, in(13, 0, 0, 95)))
	}
	b := image(0, segs...)
	for n := range 17 {
		mustRun(t, b, nil, n, want{ip: uint64(100 * n)})
	}
	mustRun(t, b, nil, 17, want{ip: 1600, status: 2})
}
