package flat_test

import (
	"bytes"
	"slices"
	"testing"

	"fishplate/api"
	"fishplate/exec"
	"fishplate/flat"
)

// room is segments of each kind: two that are next to each other, and of which one may be written; and far ones.
func room(code []byte) []byte {
	return image(codeAt,
		seg(4, 0, 9, []byte("\x01\x02\x03\x04\x05\x06\x07\x08\x09")),
		seg(4, fixedAt, 16, []byte("0123456789abcdef")),
		seg(5, codeAt, 512, code),
		seg(6, dataAt, 24, []byte("0123456789abcdefghijklmn")),
		seg(6, dataAt+24, 24, []byte("opq")),
		seg(4, dataAt+48, 8, nil),
		seg(6, 1<<31-16, 16, []byte("end")),
	)
}

// spots are addresses at and around all ends of segments, and those that turn over.
func spots() []uint64 {
	var l []uint64
	for _, end := range []uint64{0, 9, fixedAt, fixedAt + 16, codeAt, codeAt + 512, dataAt, dataAt + 24, dataAt + 48, dataAt + 56, 1<<31 - 16, 1 << 31, 1 << 32, stackAt, top} {
		for more := range uint64(22) {
			l = append(l, end+more-12)
		}
	}
	return l
}

// ends tells where a segment of room, or the stack, in which an address is begins and ends, and whether it may be written.
func ends(a uint64) (from, to uint64, writable bool) {
	for _, s := range []struct {
		from, to uint64
		w        bool
	}{{0, 9, false}, {fixedAt, fixedAt + 16, false}, {codeAt, codeAt + 512, false}, {dataAt, dataAt + 24, true}, {dataAt + 24, dataAt + 48, true}, {dataAt + 48, dataAt + 56, false}, {1<<31 - 16, 1 << 31, true}, {stackAt, top, true}} {
		if a >= s.from && a < s.to {
			return s.from, s.to, s.w
		}
	}
	return 0, 0, false
}

// P22.1: reading and writing at each place about the ends of segments, by each of Op 4 to 7, 17, and 19.
func TestEndsOfSegments(t *testing.T) {
	for _, a := range spots() {
		_, to, writable := ends(a)
		one := to > a
		eight := to > a && to-a >= 8
		for _, c := range []struct {
			name string
			code []byte
			ok   bool
		}{
			{"4", prog(put(rbx, a), in(4, rcx, rbx, 0)), eight},
			{"4 below", prog(put(rbx, a+100), in(4, rcx, rbx, -100)), eight},
			{"4 turned over", prog(put(rbx, a-1000), in(4, rcx, rbx, 1000)), eight},
			{"5", prog(put(rbx, a), in(5, rbx, rbx, 0)), eight && writable},
			{"5 below", prog(put(rbx, a+100), in(5, rbx, rbx, -100)), eight && writable},
			{"6", prog(put(rbx, a), in(6, rcx, rbx, 0)), one},
			{"7", prog(put(rbx, a), in(7, rbx, rbx, 0)), one && writable},
			{"17", prog(put(rsp, a+8), in(17, 0, 0, 3)), eight && writable},
			{"18", prog(put(rsp, a+8), in(18, 0, rdx, 0)), eight && writable},
			{"19", prog(put(rsp, a), in(19, 0, 0, 0)), eight},
		} {
			b := room(c.code)
			before := hold(t, b, nil, 1)
			after := hold(t, b, nil, 2)
			if c.ok != (after.Status == 0) {
				t.Errorf("Op %s at %x: %+v", c.name, a, after)
			}
			before.Status = 2
			if !c.ok && !same(after, before) {
				t.Errorf("Op %s at %x is stuck, and tells %+v; want %+v", c.name, a, after, before)
			}
			hold(t, b, nil, 3)
		}
	}
}

// P22.1: what is written is read again, and nothing beside it is changed; one byte is written by 7, and one read by 6.
func TestWrittenAndRead(t *testing.T) {
	const v = 0x8182838485868788
	write := prog(put(rbx, dataAt+8), put(rcx, v), in(5, rcx, rbx, 0))
	one := prog(put(rbx, dataAt+8), put(rcx, v), in(7, rcx, rbx, 0))
	for _, c := range []struct {
		write []byte
		at    int
		want  uint64
	}{
		{write, 0, v}, {write, 1, 0x6781828384858687}, {write, -8, 0x3736353433323130}, {write, 8, 0x6e6d6c6b6a696867}, {write, -1, 0x8283848586878837},
		{one, 0, 0x6665646362613988}, {one, -1, 0x6564636261398837}, {one, 1, 0x6766656463626139}, {one, -8, 0x3736353433323130},
	} {
		s := hold(t, room(prog(c.write, in(4, rdx, rbx, c.at))), nil, 4)
		if s.Regs[rdx] != c.want || s.Status != 0 {
			t.Errorf("%q: at %d is %x; want %x", c.write, c.at, s.Regs[rdx], c.want)
		}
		s = hold(t, room(prog(c.write, in(6, rdx, rbx, c.at))), nil, 4)
		if s.Regs[rdx] != c.want&255 || s.Status != 0 {
			t.Errorf("%q: the byte at %d is %x; want %x", c.write, c.at, s.Regs[rdx], c.want&255)
		}
	}
	// Behind the bytes that are in the file there are zeros, which may be written.
	code := prog(put(rbx, dataAt+24), in(4, rdx, rbx, 0), in(4, rsi, rbx, 8), put(rcx, v), in(5, rcx, rbx, 16), in(4, rdi, rbx, 16), in(6, rax, rbx, 3))
	mustRun(t, room(code), nil, 7, want{ip: uint64(codeAt + len(code)), regs: map[int]uint64{rbx: dataAt + 24, rdx: 0x71706f, rsi: 0, rcx: v, rdi: v, rax: 0}})
	// The stack is 0 at first, and is written, at both ends.
	code = prog(put(rbx, stackAt), in(4, rdx, rbx, 0), in(4, rsi, rbx, 248), put(rcx, v), in(5, rcx, rbx, 248), in(4, rdi, rbx, 248), in(7, rcx, rbx, 0), in(4, rbp, rbx, 0))
	mustRun(t, room(code), nil, 8, want{ip: uint64(codeAt + len(code)), regs: map[int]uint64{rbx: stackAt, rcx: v, rdi: v, rbp: 0x88}})
	// A register's bytes at itself.
	code = prog(put(rbx, dataAt), in(5, rbx, rbx, 0), in(4, rbx, rbx, 0))
	mustRun(t, room(code), nil, 3, want{ip: uint64(codeAt + len(code)), regs: map[int]uint64{rbx: dataAt}})
}

// P22.1, P22.2: an image's own bytes are as they were, and the next one that runs it finds them so.
func TestAnImagesOwnBytes(t *testing.T) {
	b := room(prog(put(rbx, dataAt), in(4, rdx, rbx, 0), in(5, rbx, rbx, 0), in(20, 0, 0, 0)))
	like := bytes.Clone(b)
	tape := []byte{1, 2, 3}
	for range 3 {
		if s := hold(t, b, tape, 4); s.Regs[rdx] != 0x3736353433323130 {
			t.Errorf("%+v", s)
		}
		if !bytes.Equal(b, like) || !bytes.Equal(tape, []byte{1, 2, 3}) {
			t.Fatal("what was handed in was changed")
		}
	}
}

// P22.1: Ip in a segment of each flags, in none, in the stack; it is stuck there, and nothing is done.
func TestWhereIpMayBe(t *testing.T) {
	jump := in(1, 0, rcx, 5)
	for flags := 4; flags <= 6; flags++ {
		b := image(fixedAt, seg(flags, fixedAt, 100, jump))
		if flags == 5 {
			mustRun(t, b, nil, 1, want{ip: fixedAt + 7, regs: map[int]uint64{rcx: 5}})
			continue
		}
		for _, n := range []int{1, 2, 1000} {
			mustRun(t, b, nil, n, want{ip: fixedAt, status: 2})
		}
	}
	for _, a := range spots() {
		code := prog(put(rbx, a), in(18, 0, rbx, 0))
		s := hold(t, room(code), nil, 3)
		stuck := a < codeAt || a >= codeAt+512
		if stuck && (s.Status != 2 || s.Ip != a) {
			t.Errorf("at %x: %+v", a, s)
		}
	}
	// An instruction that was written to the stack isn't run.
	code := prog(put(rbx, stackAt), put(rcx, 0x050f), in(5, rcx, rbx, 0), in(18, 0, rbx, 0))
	mustRun(t, room(code), nil, 1000, want{ip: stackAt, status: 2, regs: map[int]uint64{rbx: stackAt, rcx: 0x050f, rsp: top - 8}})
}

// P22.1: an instruction cut off at the end of its segment, at each place, also where one for running begins there; and none that begins.
func TestInstructionsCutOff(t *testing.T) {
	for op := 1; op <= 20; op++ {
		b := in(op, 0, 0, 0)
		for cut := 1; cut < len(b); cut++ {
			mustRun(t, image(codeAt, seg(5, codeAt, cut, b[:cut])), nil, 1, want{ip: codeAt, status: 2})
			mustRun(t, image(codeAt, seg(5, codeAt, cut, b[:cut]), seg(5, codeAt+cut, 20, b[cut:])), nil, 1, want{ip: codeAt, status: 2})
		}
		// All of it, to the last byte; the last ones 0, which aren't in the file.
		s := hold(t, image(codeAt, seg(5, codeAt, len(b), b)), nil, 1)
		if op != 19 && op != 4 && op != 5 && op != 6 && op != 7 && s.Status != 0 {
			t.Errorf("Op %d: %+v", op, s)
		}
		if op < 4 || op == 11 || op >= 13 && op <= 17 {
			whole := image(codeAt, seg(5, codeAt, len(b), b[:len(b)-4]))
			if s := hold(t, whole, nil, 1); s.Status != 0 {
				t.Errorf("Op %d, its number not in the file: %+v", op, s)
			}
		}
	}
	// The same behind another instruction.
	first := in(1, 0, rcx, 5)
	for op := 1; op <= 20; op++ {
		b := in(op, 0, 0, 0)
		for cut := range b {
			code := prog(first, b[:cut])
			for _, behind := range [][]exec.Seg{nil, {seg(5, codeAt+len(code), 20, b[cut:])}, {seg(6, codeAt+len(code), 20, b[cut:])}} {
				if cut == 0 && behind != nil && behind[0].Flags == 5 {
					continue
				}
				segs := append([]exec.Seg{seg(5, codeAt, len(code), code)}, behind...)
				mustRun(t, image(codeAt, segs...), nil, 9, want{ip: codeAt + 7, status: 2, regs: map[int]uint64{rcx: 5}})
			}
		}
	}
	// An instruction of one byte, the last one of its segment.
	code := prog(put(rsp, dataAt), in(19, 0, 0, 0))
	b := image(codeAt, seg(5, codeAt, len(code), code), seg(6, dataAt, 8, number(77, 8)))
	mustRun(t, b, nil, 2, want{ip: 77, regs: map[int]uint64{rsp: dataAt + 8}})
	for first := range 256 {
		for second := range 256 {
			hold(t, image(codeAt, seg(5, codeAt, 12, []byte{byte(first), byte(second), 192, 1, 0, 0, 0})), nil, 2)
		}
	}
	mustRun(t, image(codeAt, seg(5, codeAt, 20, nil)), nil, 3, want{ip: codeAt, status: 2})
	mustRun(t, image(codeAt, seg(5, codeAt, 0, nil)), nil, 3, want{ip: codeAt, status: 2})
}

// P22.1: segments may be as large as may be.
func TestLargeSegments(t *testing.T) {
	code := prog(put(rbx, 1<<31-8), in(5, rbx, rbx, 0), in(4, rcx, rbx, 0), in(4, rdx, rbx, -1<<30))
	b := image(0x1000, seg(5, 0x1000, 0x1000, code), seg(6, 0x2000, 1<<31-0x2000, nil))
	mustRun(t, b, nil, 4, want{ip: uint64(0x1000 + len(code)), regs: map[int]uint64{rbx: 1<<31 - 8, rcx: 1<<31 - 8}})
	b = image(1<<31-2, seg(5, 0, 1<<31, nil))
	mustRun(t, b, nil, 1, want{ip: 1<<31 - 2, status: 2})
}

// P22.1, P22.3: what is stuck changes nothing, and stays so: each kind, with more steps asked for.
func TestStuckStays(t *testing.T) {
	for _, l := range [][]byte{
		{0}, {6}, in(19, 0, 0, 0), in(4, rcx, rdx, 0), in(5, rcx, rdx, 0), in(6, rcx, rdx, 0), in(7, rcx, rdx, 0),
		prog(put(rsp, 7), in(17, 0, 0, 5)), prog(put(rsp, 7), in(18, 0, rcx, 0)), prog(put(rax, 2), in(20, 0, 0, 0)), prog(put(rbx, fixedAt), in(5, rcx, rbx, 0)), prog(put(rbx, codeAt), in(7, rcx, rbx, 0)),
	} {
		b := running(l)
		var last flat.State
		stuck := 0
		for n := range 8 {
			s := hold(t, b, []byte{9}, n)
			if s.Status == 2 {
				if stuck++; stuck == 1 {
					last.Status = 2
				}
				if !same(s, last) {
					t.Errorf("%v: %+v; want %+v", l, s, last)
				}
			}
			last = s
		}
		if stuck < 6 {
			t.Errorf("%v: %+v", l, last)
		}
	}
}

// code tells instructions by where the counter is: many of them at places that there are.
func (c *counter) code() []byte {
	var b []byte
	for range 3 + c.next(12) {
		op, r, m := 1+c.next(20), c.next(8), c.next(8)
		if (r == rsp || m == rsp) && c.next(3) > 0 {
			r, m = rcx, rbx
		}
		if op >= 4 && op <= 7 && m == rsp {
			m = rbp
		}
		imm := c.next(40) - 20
		switch op {
		case 1:
			imm = []int{0, 1, 60, dataAt + c.next(64), fixedAt + c.next(16), -1, codeAt + c.next(100)}[c.next(7)]
		case 2:
			imm = []int{0, 1, 1 << 31, 1 << 62, -1, -8, stackAt + c.next(256), dataAt + c.next(64), codeAt + c.next(80)}[c.next(9)]
		case 3:
			imm = c.next(0x1000)
		case 13, 14, 15, 16, 17:
			imm = c.next(60) - 20
		case 20:
			if c.next(3) > 0 {
				b = append(b, in(1, 0, rax, []int{0, 1, 1, 0, 60}[c.next(5)])...)
			}
		case 4, 5, 6, 7:
			if c.next(3) > 0 {
				b = append(b, put(m, []uint64{stackAt + uint64(c.next(256)), dataAt + uint64(c.next(64)), fixedAt + uint64(c.next(16))}[c.next(3)])...)
			}
		}
		b = append(b, in(op, r, m, imm)...)
	}
	return b
}

// P22.1, P22.3: many small programs, by each number of steps.
func TestCountedPrograms(t *testing.T) {
	var c counter
	met := map[int]int{}
	events := 0
	for range 30000 {
		b := running(c.code())
		tape := []byte{1, 2, 3}[:c.next(4)]
		var last flat.State
		for _, n := range []int{0, 1, 2, 3, 4, 5, 6, 8, 12, 20, 50, 1000} {
			s := hold(t, b, tape, n)
			if len(s.Events) < len(last.Events) || !slices.Equal(s.Events[:len(last.Events)], last.Events) {
				t.Fatalf("of %q events are %+v behind %d steps; behind fewer %+v", b, s.Events, n, last.Events)
			}
			if last.Status != 0 && !same(s, last) {
				t.Fatalf("%q had ended, or was stuck, with %+v; then %+v", b, last, s)
			}
			last = s
		}
		met[last.Status]++
		events += len(last.Events)
	}
	if min(met[0], met[1], met[2]) < 200 || events < 5000 {
		t.Errorf("met: %v, events: %d", met, events)
	}
}

// fill fills a list, also behind its end.
func fill[T any](l []T, with T) {
	l = l[:cap(l)]
	for i := range l {
		l[i] = with
	}
}

// roomy tells a list in new memory that has room for some more, which are filled, so that it is to be seen whether they get written.
func roomy[T any](l []T, more T) []T {
	long := append(make([]T, 0, len(l)+3), l...)
	return append(long, more, more, more)[:len(l)]
}

// P22.2, R2: what is told is new memory, and nothing that is handed in is changed, also not behind its end.
func TestAnswersAreNewMemory(t *testing.T) {
	code := prog(in(20, 0, 0, 0), in(1, 0, rax, 1), in(20, 0, 0, 0), put(rbx, dataAt), in(5, rbx, rbx, 0), in(1, 0, rax, 60), in(20, 0, 0, 0))
	like, likeTape := running(code), []byte{3, 4}
	want, _ := plain(like, likeTape, 9)
	if len(want.Events) != 3 {
		t.Fatalf("%+v", want)
	}
	b, tape := roomy(like, 77), roomy(likeTape, 88)
	first, _ := flat.Run(b, tape, 9)
	second, _ := flat.Run(b, tape, 9)
	fill(first.Events, api.Event{Kind: 9})
	if !same(second, want) {
		t.Errorf("%+v; want %+v", second, want)
	}
	if third := hold(t, b, tape, 9); !same(third, want) {
		t.Errorf("%+v; want %+v", third, want)
	}
	if !bytes.Equal(b[:cap(b)][:len(b)+3], append(bytes.Clone(like), 77, 77, 77)) || !bytes.Equal(tape[:len(tape)+3], append(bytes.Clone(likeTape), 88, 88, 88)) {
		t.Error("what was handed in was changed")
	}
	fill(b, 0)
	fill(tape, 0)
	if !same(second, want) {
		t.Errorf("%+v; want %+v", second, want)
	}
	if x, err := exec.Load(like); err != nil || len(x.Segs) != 3 {
		t.Error(err)
	}
}
