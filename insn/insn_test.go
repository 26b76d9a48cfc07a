package insn_test

import (
	"bytes"
	"math"
	"slices"
	"testing"

	"fishplate/insn"
)

// The document's example.
func TestExample(t *testing.T) {
	if x, ok := insn.Decode([]byte{195}); !ok || x != (insn.Insn{Op: 19, Len: 1}) {
		t.Errorf("%+v, %v", x, ok)
	}
	if b := insn.Encode(insn.Insn{Op: 19, Len: 1}); !bytes.Equal(b, []byte{195}) {
		t.Errorf("%v", b)
	}
}

// P21.1: one instruction of each Op, by hand.
func TestOneOfEach(t *testing.T) {
	for _, c := range []struct {
		b    string
		want insn.Insn
	}{
		{"\x48\xc7\xc7\x01\x02\x03\xff", insn.Insn{Op: 1, M: 7, Len: 7, Field: 3, Width: 4, Imm: -0xfcfdff}},
		{"\x48\xbd\x01\x00\x00\x00\x00\x00\x00\x80", insn.Insn{Op: 2, M: 5, Len: 10, Field: 2, Width: 8, Imm: math.MinInt + 1}},
		{"\x48\x8d\x35\x04\x00\x00\x00", insn.Insn{Op: 3, R: 6, Len: 7, Field: 3, Width: 4, Imm: 4}},
		{"\x48\x8b\x8a\xff\xff\xff\x7f", insn.Insn{Op: 4, R: 1, M: 2, Len: 7, Field: 3, Width: 4, Imm: math.MaxInt32}},
		{"\x48\x89\xa5\x00\x00\x00\x80", insn.Insn{Op: 5, R: 4, M: 5, Len: 7, Field: 3, Width: 4, Imm: math.MinInt32}},
		{"\x48\x0f\xb6\xbf\x00\x01\x00\x00", insn.Insn{Op: 6, R: 7, M: 7, Len: 8, Field: 4, Width: 4, Imm: 256}},
		{"\x48\x88\x83\x00\x00\x00\x00", insn.Insn{Op: 7, M: 3, Len: 7, Field: 3, Width: 4}},
		{"\x48\x89\xe5", insn.Insn{Op: 8, R: 4, M: 5, Len: 3}},
		{"\x48\x01\xc0", insn.Insn{Op: 9, Len: 3}},
		{"\x48\x29\xfe", insn.Insn{Op: 10, R: 7, M: 6, Len: 3}},
		{"\x48\x81\xc4\xf8\xff\xff\xff", insn.Insn{Op: 11, M: 4, Len: 7, Field: 3, Width: 4, Imm: -8}},
		{"\x48\x39\xd9", insn.Insn{Op: 12, R: 3, M: 1, Len: 3}},
		{"\xe9\xfb\xff\xff\xff", insn.Insn{Op: 13, Len: 5, Field: 1, Width: 4, Imm: -5}},
		{"\x0f\x84\x01\x00\x00\x00", insn.Insn{Op: 14, Len: 6, Field: 2, Width: 4, Imm: 1}},
		{"\x0f\x85\x02\x00\x00\x00", insn.Insn{Op: 15, Len: 6, Field: 2, Width: 4, Imm: 2}},
		{"\x0f\x82\x03\x00\x00\x00", insn.Insn{Op: 16, Len: 6, Field: 2, Width: 4, Imm: 3}},
		{"\xe8\x00\x00\x01\x00", insn.Insn{Op: 17, Len: 5, Field: 1, Width: 4, Imm: 65536}},
		{"\xff\xd2", insn.Insn{Op: 18, M: 2, Len: 2}},
		{"\xc3", insn.Insn{Op: 19, Len: 1}},
		{"\x0f\x05", insn.Insn{Op: 20, Len: 2}},
	} {
		if x, ok := insn.Decode([]byte(c.b)); !ok || x != c.want {
			t.Errorf("Decode(%q) = %+v, %v; want %+v", c.b, x, ok, c.want)
		}
		if b := insn.Encode(c.want); string(b) != c.b {
			t.Errorf("Encode(%+v) = %q; want %q", c.want, b, c.b)
		}
	}
}

// P21.1, P21.3: each Op, at each R and M that it may have, with each number; whatever stands behind it; and cut off at each place.
func TestEachInstruction(t *testing.T) {
	all := kinds()
	if len(all) != 8+8+8+4*56+3*64+8+64+5+8+1+1 {
		t.Fatalf("%d kinds", len(all))
	}
	for _, k := range all {
		for _, imm := range k.imms() {
			want, b := k.with(imm)
			if got, ok := insn.Decode(b); !ok || got != want {
				t.Fatalf("Decode(%v) = %+v, %v; want %+v", b, got, ok, want)
			}
			if got := insn.Encode(want); !bytes.Equal(got, b) {
				t.Fatalf("Encode(%+v) = %v; want %v", want, got, b)
			}
			for _, behind := range [][]byte{{0}, {255}, {72}, {195}, b, make([]byte, 20), bytes.Repeat([]byte{15, 132, 72}, 9)} {
				long := slices.Concat(b, behind)
				if got, ok := insn.Decode(long); !ok || got != want {
					t.Fatalf("Decode(%v) = %+v, %v; want %+v", long, got, ok, want)
				}
			}
			for n := range b {
				if got, ok := insn.Decode(b[:n]); ok || got != (insn.Insn{}) {
					t.Fatalf("Decode(%v) = %+v, %v", b[:n], got, ok)
				}
				// What is cut off isn't taken from behind the end.
				if got, ok := insn.Decode(b[:n:n]); ok || got != (insn.Insn{}) {
					t.Fatalf("Decode(%v) = %+v, %v", b[:n], got, ok)
				}
			}
		}
	}
}

// P21.1: no bytes.
func TestNoBytes(t *testing.T) {
	for _, b := range [][]byte{nil, {}} {
		if x, ok := insn.Decode(b); ok || x != (insn.Insn{}) {
			t.Errorf("%+v, %v", x, ok)
		}
	}
	if b := insn.Encode(insn.Insn{}); b != nil {
		t.Errorf("%v", b)
	}
}

// P21.1: Op 4 to 7 by rsp are none, nor are registers where the table has others.
func TestRegistersThatMayNotBe(t *testing.T) {
	for _, head := range []string{"\x48\x8b", "\x48\x89", "\x48\x0f\xb6", "\x48\x88"} {
		for r := range 8 {
			b := append([]byte(head), byte(128+8*r+4), 0, 0, 0, 0, 0)
			if x, ok := insn.Decode(b); ok || x != (insn.Insn{}) {
				t.Errorf("Decode(%v) = %+v, %v", b, x, ok)
			}
		}
	}
	for op := 4; op <= 7; op++ {
		for r := range 8 {
			x := insn.Insn{Op: op, R: r, M: 4, Len: 7, Field: 3, Width: 4}
			if op == 6 {
				x.Len, x.Field = 8, 4
			}
			if b := insn.Encode(x); b != nil {
				t.Errorf("Encode(%+v) = %v", x, b)
			}
		}
	}
}

// P21.1: each first byte with each second and third one, with zeros and with others behind.
func TestAllFirstBytes(t *testing.T) {
	all := newSet()
	const cut = 3
	const one = 1 << (8 * cut)
	// Of each three bytes the kind that begins so, counted from 1 on; no kind has more bytes ahead of its field that tell one from others, but Op 6.
	begins := make([]uint16, one)
	for i, k := range all.list {
		head := k.head
		if len(head) > cut {
			continue
		}
		from := 0
		for n := range cut {
			from <<= 8
			if n < len(head) {
				from |= int(head[n])
			}
		}
		for more := range 1 << (8 * (cut - len(head))) {
			if begins[from+more] != 0 {
				t.Fatalf("two kinds begin with %v", head)
			}
			begins[from+more] = uint16(i + 1)
		}
	}
	b := []byte{0, 0, 0, 0x9c, 0x80, 0, 0xfe, 0, 0, 0x90}
	for n := range one {
		b[0], b[1], b[2] = byte(n>>16), byte(n>>8), byte(n)
		got, ok := insn.Decode(b)
		if b[0] == 72 && b[1] == 15 {
			all.holdDecode(t, b)
			continue
		}
		if ok != (begins[n] != 0) || !ok && got != (insn.Insn{}) {
			t.Fatalf("Decode(%v) = %+v, %v", b, got, ok)
		}
		if !ok {
			continue
		}
		if n%7 == 0 {
			all.holdDecode(t, b)
		}
		want := all.list[begins[n]-1].x
		want.Imm = got.Imm
		if got != want {
			t.Fatalf("Decode(%v) = %+v; want %+v", b, got, want)
		}
	}
	// Op 6 has a byte more.
	for third := range 256 {
		for fourth := range 256 {
			all.holdDecode(t, []byte{72, 15, byte(third), byte(fourth), 1, 2, 3, 4, 5})
			all.holdDecode(t, []byte{72, 15, byte(third), byte(fourth), 1, 2, 3})
		}
	}
}

// changes tells an instruction with each of its fields changed, alone.
func changes(x insn.Insn) []insn.Insn {
	var l []insn.Insn
	far := []int{-1, 0, 1, 2, 3, 4, 5, 7, 8, 9, 10, 20, 21, 22, 64, 256, -8, -256, math.MaxInt32, math.MaxInt32 + 1, math.MinInt32, math.MinInt32 - 1, 1 << 32, 1<<32 + 1, 1 << 56, 1 << 61, 1 << 62, math.MaxInt, math.MinInt}
	for field := range 7 {
		for _, v := range far {
			for _, more := range []bool{false, true} {
				y := x
				p := []*int{&y.Op, &y.R, &y.M, &y.Len, &y.Field, &y.Width, &y.Imm}[field]
				if more {
					*p += v
				} else {
					*p = v
				}
				l = append(l, y)
			}
		}
	}
	return l
}

// P21.1, P21.3: Encode of each instruction with each field turned, alone, also to what is far outside: none of another one.
func TestTurnedFields(t *testing.T) {
	all := newSet()
	met := map[bool]int{}
	for i, k := range all.list {
		imms := k.imms()
		for n, imm := range imms {
			// Of each kind some of the numbers, so that each is met with many kinds.
			if n > 4 && (i+n)%7 > 0 {
				continue
			}
			x, _ := k.with(imm)
			for _, y := range changes(x) {
				met[all.holdEncode(t, y)]++
			}
		}
	}
	if min(met[true], met[false]) < 10000 {
		t.Errorf("met: %v", met)
	}
}

// P21.1: numbers just beyond each bound.
func TestNumbersThatDontFit(t *testing.T) {
	for _, k := range kinds() {
		if k.x.Width == 8 {
			continue
		}
		for _, imm := range []int{math.MaxInt32 + 1, math.MinInt32 - 1, 1 << 32, 1<<32 - 1, -1 << 32, 1<<32 + 1, math.MaxInt, math.MinInt} {
			x := k.x
			x.Imm = imm
			if b := insn.Encode(x); b != nil {
				t.Fatalf("Encode(%+v) = %v", x, b)
			}
		}
		if x := k.x; x.Width == 0 {
			x.Imm = 1
			if b := insn.Encode(x); b != nil {
				t.Fatalf("Encode(%+v) = %v", x, b)
			}
		}
	}
}

// counter counts on, by a fixed rule, and tells numbers below another one by where it is.
type counter uint64

func (c *counter) next(below int) int {
	*c = *c*6364136223846793005 + 1442695040888963407
	return int(*c>>33) % below
}

// P21.1, P21.3: many bytes, and many instructions, of which some are none.
func TestCounted(t *testing.T) {
	all := newSet()
	var c counter
	met := map[bool]int{}
	often := []byte{72, 15, 199, 184, 141, 139, 137, 182, 136, 1, 41, 129, 57, 233, 132, 133, 130, 232, 255, 208, 195, 5, 192, 128, 132}
	for range 300000 {
		b := make([]byte, c.next(12))
		for i := range b {
			b[i] = byte(c.next(256))
			if c.next(2) == 0 {
				b[i] = often[c.next(len(often))]
			}
		}
		met[all.holdDecode(t, b)]++
		k := all.list[c.next(len(all.list))]
		x, _ := k.with(c.next(1<<31) - c.next(1<<31))
		if c.next(3) == 0 {
			x.R, x.M = c.next(9), c.next(9)
		}
		met[all.holdEncode(t, x)]++
	}
	if min(met[true], met[false]) < 50000 {
		t.Errorf("met: %v", met)
	}
}

// P21.2, R2: nothing that is handed in is changed, also not behind its end, and what is told is new memory.
func TestMemory(t *testing.T) {
	for _, k := range kinds() {
		x, b := k.with(k.imms()[0])
		for n := range len(b) + 1 {
			long := append(bytes.Clone(b), 1, 2, 3)
			like := bytes.Clone(long)
			insn.Decode(long[:n])
			if !bytes.Equal(long, like) {
				t.Fatalf("Decode changed %v to %v", like, long)
			}
		}
		first, second := insn.Encode(x), insn.Encode(x)
		first = first[:cap(first)]
		for i := range first {
			first[i] = 99
		}
		if third := insn.Encode(x); !bytes.Equal(second, b) || !bytes.Equal(third, b) {
			t.Fatalf("Encode(%+v) = %v, %v; want %v", x, second, third, b)
		}
		if y, ok := insn.Decode(b); !ok || y != x {
			t.Fatalf("Decode(%v) = %+v, %v", b, y, ok)
		}
	}
}
