package ehdr_test

import (
	"bytes"
	"math"
	"slices"
	"testing"

	"fishplate/api"
	"fishplate/ehdr"
)

// laid tells the 64 bytes with the three numbers in them, as far as they fit, written by hand.
func laid(at, many, names uint64) []byte {
	return []byte{
		127, 69, 76, 70, 2, 1, 1, 0, 0, 0, 0, 0, 0, 0, 0, 0,
		1, 0, 62, 0, 1, 0, 0, 0, 0, 0, 0, 0, 0, 0, 0, 0,
		0, 0, 0, 0, 0, 0, 0, 0, byte(at), byte(at >> 8), byte(at >> 16), byte(at >> 24),
		byte(at >> 32), byte(at >> 40), byte(at >> 48), byte(at >> 56),
		0, 0, 0, 0, 64, 0, 0, 0, 0, 0, 64, 0,
		byte(many), byte(many >> 8), byte(names), byte(names >> 8),
	}
}

// isFixed tells whether the document fixes the byte at i.
func isFixed(i int) bool {
	return i < 40 || i >= 48 && i < 60
}

// plainMay tells what P4.1 says of the three numbers.
func plainMay(at, many, names uint64) bool {
	return at <= 2147483647 && 1 <= many && many <= 65535 && 1 <= names && names <= many-1
}

// places are what At may be, wrongPlaces what it may not be.
func places() []int {
	return []int{0, 1, 2, 63, 64, 255, 256, 16384, 65535, 65536, 16909060, 1 << 30, 2147483646, api.MaxAddr}
}

func wrongPlaces() []int {
	return []int{
		math.MinInt, math.MinInt + 1, math.MinInt + 64, -1 << 32, -2147483649, -2147483648, -2147483647, -64, -2, -1,
		2147483648, 2147483649, 1<<32 - 1, 1 << 32, 1<<32 + 1, 1<<32 + 64, 1 << 40, 1 << 48, 1 << 56, 1 << 62,
		math.MaxInt - 64, math.MaxInt - 1, math.MaxInt,
	}
}

// counts are numbers that Many and Names may have, or may not.
func counts() []int {
	return []int{0, 1, 2, 3, 4, 127, 128, 254, 255, 256, 257, 513, 32767, 32768, 65279, 65280, 65533, 65534, 65535}
}

// wrongCounts are numbers that neither of the two may have; some would be good ones but for what two bytes don't hold.
func wrongCounts() []int {
	return []int{
		math.MinInt, math.MinInt + 1, math.MinInt + 2, -1 << 32, -65536, -65535, -65534, -2, -1,
		65536, 65537, 65538, 65539, 131071, 1 << 20, 1<<31 - 1, 1 << 31, 1 << 32, 1<<32 + 1, 1<<32 + 2,
		math.MaxInt - 1, math.MaxInt,
	}
}

// known is a head, and the bytes of its numbers, written by hand.
type known struct {
	head  ehdr.Head
	at    []byte // eight from the fortieth on
	count []byte // the last four
}

// knownHeads are some at the edges.
func knownHeads() []known {
	return []known{
		{ehdr.Head{At: 64, Many: 2, Names: 1}, []byte{64, 0, 0, 0, 0, 0, 0, 0}, []byte{2, 0, 1, 0}},
		{ehdr.Head{At: 0, Many: 2, Names: 1}, []byte{0, 0, 0, 0, 0, 0, 0, 0}, []byte{2, 0, 1, 0}},
		{ehdr.Head{At: 1, Many: 3, Names: 1}, []byte{1, 0, 0, 0, 0, 0, 0, 0}, []byte{3, 0, 1, 0}},
		{ehdr.Head{At: 1, Many: 3, Names: 2}, []byte{1, 0, 0, 0, 0, 0, 0, 0}, []byte{3, 0, 2, 0}},
		{ehdr.Head{At: 300, Many: 258, Names: 257}, []byte{44, 1, 0, 0, 0, 0, 0, 0}, []byte{2, 1, 1, 1}},
		{ehdr.Head{At: 16909060, Many: 1286, Names: 772}, []byte{4, 3, 2, 1, 0, 0, 0, 0}, []byte{6, 5, 4, 3}},
		{ehdr.Head{At: api.MaxAddr, Many: 65535, Names: 65534}, []byte{255, 255, 255, 127, 0, 0, 0, 0}, []byte{255, 255, 254, 255}},
		{ehdr.Head{At: api.MaxAddr - 1, Many: 65535, Names: 1}, []byte{254, 255, 255, 127, 0, 0, 0, 0}, []byte{255, 255, 1, 0}},
		{ehdr.Head{At: 128, Many: 65280, Names: 255}, []byte{128, 0, 0, 0, 0, 0, 0, 0}, []byte{0, 255, 255, 0}},
	}
}

// behind are bytes that may stand behind a header.
func behind() [][]byte {
	return [][]byte{nil, {0}, {255}, {127, 69, 76, 70}, make([]byte, 64), bytes.Repeat([]byte{255}, 200), laid(1, 5, 4)}
}

// mustPut holds what Put tells against bytes.
func mustPut(t *testing.T, h ehdr.Head, want []byte) {
	t.Helper()
	if b := ehdr.Put(h); !bytes.Equal(b, want) {
		t.Errorf("Put(%v) = %v; want %v", h, b, want)
	}
}

// mustGet holds what Get tells against a head.
func mustGet(t *testing.T, b []byte, want ehdr.Head) {
	t.Helper()
	if h, ok := ehdr.Get(b); h != want || !ok {
		t.Errorf("Get(%v) = %v, %v; want %v, true", b, h, ok, want)
	}
}

// mustGetNone holds what Get tells against a zero head, false.
func mustGetNone(t *testing.T, b []byte) {
	t.Helper()
	if h, ok := ehdr.Get(b); h != (ehdr.Head{}) || ok {
		t.Errorf("Get(%v) = %v, %v; want a zero head, false", b, h, ok)
	}
}

// P4.1: the 64 bytes, each as the document tells it.
func TestPutTellsTheBytes(t *testing.T) {
	for _, k := range knownHeads() {
		want := slices.Concat(laid(0, 0, 0)[:40], k.at, laid(0, 0, 0)[48:60], k.count)
		if len(want) != 64 {
			t.Fatalf("%v has %d bytes", want, len(want))
		}
		mustPut(t, k.head, want)
	}
}

// P4.1: the head with which b begins, whatever stands behind it.
func TestGetTellsTheHead(t *testing.T) {
	for _, k := range knownHeads() {
		b := slices.Concat(laid(0, 0, 0)[:40], k.at, laid(0, 0, 0)[48:60], k.count)
		for _, more := range behind() {
			mustGet(t, slices.Concat(b, more), k.head)
		}
	}
}

// P4.1: b's first bytes are the header, not those further on.
func TestGetLooksAtTheBeginning(t *testing.T) {
	for _, ahead := range [][]byte{{0}, {127}, make([]byte, 16), make([]byte, 64)} {
		mustGetNone(t, append(ahead, laid(64, 2, 1)...))
	}
}

// checkHead holds Put and Get of three numbers against P4.1, P4.3.
func checkHead(t *testing.T, at, many, names int) {
	t.Helper()
	h := ehdr.Head{At: at, Many: many, Names: names}
	if !plainMay(uint64(at), uint64(many), uint64(names)) {
		mustPut(t, h, nil)
		return
	}
	b := laid(uint64(at), uint64(many), uint64(names))
	mustPut(t, h, b)
	mustGet(t, b, h)
}

// P4.1, P4.3: heads that may be, and such of which one number, two or all may not be.
func TestHeadsOfAllEdges(t *testing.T) {
	for _, at := range append(places(), wrongPlaces()...) {
		for _, many := range append(counts(), wrongCounts()...) {
			for _, names := range append(counts(), wrongCounts()...) {
				checkHead(t, at, many, names)
			}
		}
	}
}

// P4.1: Names is one of those that there are, but the first one, up to the last one.
func TestNamesIsWithinMany(t *testing.T) {
	for _, many := range counts() {
		for _, names := range []int{-1, 0, 1, 2, many / 2, many - 2, many - 1, many, many + 1, many + 2} {
			checkHead(t, 64, many, names)
		}
	}
	for many := range 66 {
		for names := range 68 {
			checkHead(t, 64, many, names)
		}
	}
}

// P4.1: of no head that may not be there are bytes, not even where two or eight bytes of it would be good ones.
func TestPutOfHeadsThatMayNotBe(t *testing.T) {
	for _, at := range wrongPlaces() {
		mustPut(t, ehdr.Head{At: at, Many: 2, Names: 1}, nil)
	}
	for _, many := range append(wrongCounts(), 0, 1) {
		mustPut(t, ehdr.Head{At: 64, Many: many, Names: 1}, nil)
		mustPut(t, ehdr.Head{At: 64, Many: many, Names: many - 1}, nil)
	}
	for _, names := range append(wrongCounts(), 0, 65535) {
		mustPut(t, ehdr.Head{At: 64, Many: 65535, Names: names}, nil)
	}
	mustPut(t, ehdr.Head{}, nil)
}

// P4.1: what the bytes tell may not be.
func TestGetOfHeadsThatMayNotBe(t *testing.T) {
	for _, at := range []uint64{
		2147483648, 2147483649, 1<<32 - 1, 1 << 32, 1<<32 + 64, 1 << 40, 1 << 48, 1 << 56,
		1<<63 - 1, 1 << 63, 1<<63 + 64, math.MaxUint64 - 63, math.MaxUint64,
	} {
		mustGetNone(t, laid(at, 2, 1))
		mustGetNone(t, laid(at, 65535, 65534))
	}
	for many := range uint64(1000) {
		for _, names := range []uint64{0, many, many + 1, 256 * many % 65536, 65535} {
			if !plainMay(64, many, names) {
				mustGetNone(t, laid(64, many, names))
			}
		}
	}
	mustGetNone(t, laid(64, 65535, 65535))
	mustGetNone(t, laid(64, 0, 1))
	mustGetNone(t, laid(64, 1, 0))
	mustGetNone(t, laid(64, 0, 0))
	mustGetNone(t, laid(0, 0, 0))
}

// P4.1: a zero head, false of fewer than 64 bytes, also where the array has them.
func TestGetOfTooFewBytes(t *testing.T) {
	mustGetNone(t, nil)
	for _, k := range knownHeads() {
		b := ehdr.Put(k.head)
		if len(b) != 64 {
			t.Fatalf("Put(%v) has %d bytes", k.head, len(b))
		}
		for n := range 64 {
			mustGetNone(t, b[:n])
			mustGetNone(t, slices.Clone(b[:n]))
			mustGetNone(t, b[64-n:])
		}
		mustGet(t, b, k.head)
		mustGet(t, b[:64:64], k.head)
	}
}

// P4.1: of bytes that are none's, however many there are, nothing is got.
func TestGetOfOtherBytes(t *testing.T) {
	for _, n := range []int{1, 63, 64, 65, 128, 5000} {
		for _, c := range []byte{0, 1, 64, 127, 255} {
			mustGetNone(t, bytes.Repeat([]byte{c}, n))
		}
	}
}

// turn holds Get of b, of which the byte at i is c, against P4.1, P4.3; was is the head without that.
func turn(t *testing.T, b []byte, i int, c byte, was ehdr.Head) {
	t.Helper()
	turned := bytes.Clone(b)
	turned[i] = c
	h, ok := ehdr.Get(turned)
	switch {
	case !ok && h != (ehdr.Head{}):
		t.Errorf("byte %d is %d: %v beside false", i, c, h)
	case ok && isFixed(i):
		t.Errorf("byte %d is %d: got %v", i, c, h)
	case ok && h == was:
		t.Errorf("byte %d is %d: got %v as without", i, c, h)
	case ok && !bytes.Equal(ehdr.Put(h), turned[:64]):
		t.Errorf("byte %d is %d: got %v, which is put as %v", i, c, h, ehdr.Put(h))
	}
	var at uint64
	for i, c := range turned[40:48] {
		at += uint64(c) << (8 * i)
	}
	many, names := uint64(turned[60])+256*uint64(turned[61]), uint64(turned[62])+256*uint64(turned[63])
	if want := !isFixed(i) && plainMay(at, many, names); ok != want {
		t.Errorf("byte %d is %d: %v; want %v", i, c, ok, want)
	}
	if ok && h != (ehdr.Head{At: int(at), Many: int(many), Names: int(names)}) {
		t.Errorf("byte %d is %d: got %v; want %d, %d, %d", i, c, h, at, many, names)
	}
}

// P4.1, P4.3: each of the 64 bytes turned to each other one: where it is fixed nothing is got, else another head, or nothing.
func TestEachByteTurned(t *testing.T) {
	for _, k := range knownHeads() {
		b := ehdr.Put(k.head)
		if len(b) != 64 {
			t.Fatalf("Put(%v) has %d bytes", k.head, len(b))
		}
		for i, was := range b {
			for c := range 256 {
				if byte(c) != was {
					turn(t, b, i, byte(c), k.head)
					turn(t, append(bytes.Clone(b), 1, 2, 3), i, byte(c), k.head)
				}
			}
		}
	}
}

// P4.1: two fixed bytes turned don't make up for each other.
func TestTwoBytesTurned(t *testing.T) {
	b := laid(64, 2, 1)
	for i := range b {
		for j := range i {
			if !isFixed(i) && !isFixed(j) {
				continue
			}
			for _, c := range []byte{1, 128, 255} {
				turned := bytes.Clone(b)
				turned[i] ^= c
				turned[j] ^= c
				mustGetNone(t, turned)
				turned = bytes.Clone(b)
				turned[i] += c
				turned[j] -= c
				mustGetNone(t, turned)
			}
		}
	}
	for i := range b {
		for j := range i {
			if b[i] != b[j] && (isFixed(i) || isFixed(j)) {
				turned := bytes.Clone(b)
				turned[i], turned[j] = turned[j], turned[i]
				mustGetNone(t, turned)
			}
		}
	}
}

// R2: nothing that is handed in is changed, nor what stands behind it in its array.
func TestNothingHandedInIsChanged(t *testing.T) {
	wrong := laid(64, 2, 1)
	wrong[20] = 2
	for _, head := range [][]byte{laid(64, 2, 1), laid(api.MaxAddr, 65535, 65534), laid(1<<31, 2, 1), laid(64, 1, 1), wrong} {
		array := append(head, 11, 22, 33, 44)
		want := bytes.Clone(array)
		for n := range len(array) + 1 {
			ehdr.Get(array[:n])
		}
		if !bytes.Equal(array, want) {
			t.Errorf("%v is changed: %v", want, array)
		}
	}
}

// P4.2: no two lists that Put tells are one, and none of them is what Get holds bytes against.
func TestPutTellsNewMemory(t *testing.T) {
	for _, k := range knownHeads() {
		first, second := ehdr.Put(k.head), ehdr.Put(k.head)
		want := bytes.Clone(second)
		first = first[:cap(first)]
		for i := range first {
			first[i] = 0xee
		}
		if !bytes.Equal(second, want) {
			t.Errorf("Put(%v) hands out one list twice", k.head)
		}
		mustPut(t, k.head, want)
		mustGet(t, want, k.head)
	}
}

// P4.3: what was put is got, whatever stands behind it; what is got, put, is those bytes.
func TestWhatWasPutIsGot(t *testing.T) {
	for _, at := range places() {
		for _, many := range counts()[2:] {
			for _, names := range []int{1, (many + 1) / 2, many - 1} {
				h := ehdr.Head{At: at, Many: many, Names: names}
				b := ehdr.Put(h)
				for _, more := range behind() {
					mustGet(t, slices.Concat(b, more), h)
				}
				got, _ := ehdr.Get(b)
				mustPut(t, got, b)
			}
		}
	}
	for i := range 31 {
		checkHead(t, 1<<i, 2, 1)
		checkHead(t, 1<<i-1, 2, 1)
		checkHead(t, 1<<i+1, 2, 1)
	}
	for i := range 65536 {
		checkHead(t, 64, 65535, i)
		checkHead(t, 64, i, 1)
		checkHead(t, 64, i, i-1)
	}
}
