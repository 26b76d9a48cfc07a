package insn_test

import (
	"bytes"
	"math"
	"strconv"
	"strings"
	"testing"

	"fishplate/insn"
)

// table is the chapter's: the bytes of Op 1 at place 0.
var table = []string{
	"72 199 (192 + m) d4",
	"72 (184 + m) d8",
	"72 141 (5 + 8 r) d4",
	"72 139 (128 + 8 r + m) d4",
	"72 137 (128 + 8 r + m) d4",
	"72 15 182 (128 + 8 r + m) d4",
	"72 136 (128 + 8 r + m) d4",
	"72 137 (192 + 8 r + m)",
	"72 1 (192 + 8 r + m)",
	"72 41 (192 + 8 r + m)",
	"72 129 (192 + m) d4",
	"72 57 (192 + 8 r + m)",
	"233 d4",
	"15 132 d4",
	"15 133 d4",
	"15 130 d4",
	"232 d4",
	"255 (208 + m)",
	"195",
	"15 5",
}

// kind is an instruction without what number is in it: what it is, and the bytes ahead of its field.
type kind struct {
	x    insn.Insn
	head []byte
}

// kinds tells all of them, by the table's words.
func kinds() []kind {
	var l []kind
	for i, row := range table {
		op := i + 1
		for r := range 8 {
			for m := range 8 {
				if r > 0 && !strings.Contains(row, "r") || m > 0 && !strings.Contains(row, "m") || m == 4 && op >= 4 && op <= 7 {
					continue
				}
				l = append(l, read(row, insn.Insn{Op: op, R: r, M: m}))
			}
		}
	}
	return l
}

// set is all kinds, also by what is asked for, so that it is found soon.
type set struct {
	list   []kind
	of     map[insn.Insn]kind // by the instruction with the number 0
	begins [256][]kind
}

// newSet tells all kinds so.
func newSet() *set {
	s := &set{list: kinds(), of: map[insn.Insn]kind{}}
	for _, k := range s.list {
		s.of[k.x] = k
		s.begins[k.head[0]] = append(s.begins[k.head[0]], k)
	}
	return s
}

// read tells the kind that a row is, of an instruction's Op and registers.
func read(row string, x insn.Insn) kind {
	k := kind{x: x}
	for row != "" {
		row = strings.TrimLeft(row, " ")
		var word string
		if row[0] == '(' {
			word, row, _ = strings.Cut(row, ")")
			k.head = append(k.head, byte(sum(word[1:], x)))
			continue
		}
		word, row, _ = strings.Cut(row, " ")
		if word[0] == 'd' {
			k.x.Field, k.x.Width = len(k.head), int(word[1]-'0')
			continue
		}
		k.head = append(k.head, byte(number(word)))
	}
	k.x.Len = len(k.head) + k.x.Width
	return k
}

// sum tells the sum that a byte is.
func sum(word string, x insn.Insn) int {
	n := 0
	for _, part := range strings.Split(word, " + ") {
		switch part {
		case "m":
			n += x.M
		case "8 r":
			n += 8 * x.R
		default:
			n += number(part)
		}
	}
	return n
}

// number tells a number that is written out.
func number(word string) int {
	n, err := strconv.Atoi(word)
	if err != nil {
		panic(err)
	}
	return n
}

// with tells the instruction of a kind with a number in it, and its bytes.
func (k kind) with(imm int) (insn.Insn, []byte) {
	x, b := k.x, bytes.Clone(k.head)
	x.Imm = imm
	for i := range x.Width {
		b = append(b, byte(imm>>(8*i)))
	}
	return x, b
}

// mayHave tells whether a number may be in an instruction of a kind.
func (k kind) mayHave(imm int) bool {
	switch k.x.Width {
	case 0:
		return imm == 0
	case 4:
		return imm >= math.MinInt32 && imm <= math.MaxInt32
	}
	return true
}

// imms are numbers that may be in an instruction.
func (k kind) imms() []int {
	var l []int
	for _, imm := range []int{0, 1, -1, 2, 127, 128, 255, 256, -128, -129, 1<<24 - 1, 1 << 24, 1 << 30, math.MaxInt32 - 1, math.MaxInt32, math.MinInt32, math.MinInt32 + 1, 0x12345678, -0x12345678, 1 << 31, -1<<31 - 1, 1<<32 - 1, 1 << 32, 1 << 62, math.MaxInt, math.MinInt, 0x123456789abcdef0, -0x123456789abcdef0} {
		if k.mayHave(imm) {
			l = append(l, imm)
		}
	}
	return l
}

// encode tells an instruction's bytes by the chapter's words.
func (s *set) encode(x insn.Insn) []byte {
	like := x
	like.Imm = 0
	k, ok := s.of[like]
	if !ok || !k.mayHave(x.Imm) {
		return nil
	}
	_, b := k.with(x.Imm)
	return b
}

// decode tells the instruction with which bytes begin by the chapter's words.
func (s *set) decode(b []byte) (insn.Insn, bool) {
	if len(b) == 0 {
		return insn.Insn{}, false
	}
	for _, k := range s.begins[b[0]] {
		if !bytes.HasPrefix(b, k.head) || len(b) < k.x.Len {
			continue
		}
		n := uint64(0)
		for i := range k.x.Width {
			n |= uint64(b[k.x.Field+i]) << (8 * i)
		}
		if k.x.Width == 4 && n >= 1<<31 {
			n -= 1 << 32
		}
		x, _ := k.with(int(n))
		return x, true
	}
	return insn.Insn{}, false
}

// holdDecode holds what is told of bytes against the plain reading; it tells whether there is an instruction.
func (s *set) holdDecode(t *testing.T, b []byte) bool {
	t.Helper()
	want, wantOk := s.decode(b)
	got, ok := insn.Decode(b)
	if got != want || ok != wantOk {
		t.Fatalf("Decode(%v) = %+v, %v; want %+v, %v", b, got, ok, want, wantOk)
	}
	if again := insn.Encode(got); ok && !bytes.Equal(again, b[:got.Len]) {
		t.Fatalf("%v is encoded to %v", b, again)
	}
	return ok
}

// holdEncode holds the bytes that are told of an instruction against the plain reading; it tells whether there are some.
func (s *set) holdEncode(t *testing.T, x insn.Insn) bool {
	t.Helper()
	want := s.encode(x)
	got := insn.Encode(x)
	if !bytes.Equal(got, want) {
		t.Fatalf("Encode(%+v) = %v; want %v", x, got, want)
	}
	if want == nil {
		return false
	}
	if back, ok := insn.Decode(got); !ok || back != x {
		t.Fatalf("%+v is decoded to %+v, %v", x, back, ok)
	}
	return true
}
