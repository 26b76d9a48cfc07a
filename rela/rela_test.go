package rela_test

import (
	"bytes"
	"math"
	"slices"
	"testing"

	"fishplate/api"
	"fishplate/rela"
)

// laid tells the 24 bytes of r, as far as its numbers fit, written by hand.
func laid(r api.Rel) []byte {
	b := make([]byte, 24)
	lay(b, 0, 8, uint64(r.Off))
	lay(b, 8, 4, uint64(r.Type))
	lay(b, 12, 4, uint64(r.Sym))
	lay(b, 16, 8, uint64(r.Add))
	return b
}

// lay writes the lowest n bytes of v from at on.
func lay(b []byte, at, n int, v uint64) {
	for k := range n {
		b[at+k] = byte(v >> (8 * k))
	}
}

// readPlainly tells what P7.1 says of 24 bytes: their relocation, true, or a zero one, false.
func readPlainly(b []byte) (api.Rel, bool) {
	read := func(at, n int) uint64 {
		var v uint64
		for k := range n {
			v += uint64(b[at+k]) << (8 * k)
		}
		return v
	}
	off, kind, symbol, add := read(0, 8), read(8, 4), read(12, 4), read(16, 8)
	if off > 2147483647 || symbol > 2147483647 {
		return api.Rel{}, false
	}
	if kind != 1 && kind != 2 && kind != 4 && kind != 10 && kind != 11 {
		return api.Rel{}, false
	}
	signed := int(add)
	if add >= 1<<63 {
		signed = -int(math.MaxUint64-add) - 1
	}
	return api.Rel{Off: int(off), Type: int(kind), Sym: int(symbol), Add: signed}, true
}

// plainMay tells what P7.1 says of a relocation.
func plainMay(r api.Rel) bool {
	if r.Off < 0 || r.Off > 2147483647 || r.Sym < 0 || r.Sym > 2147483647 {
		return false
	}
	return r.Type == 1 || r.Type == 2 || r.Type == 4 || r.Type == 10 || r.Type == 11
}

// numbers tells where r's numbers are, so that each can be turned.
func numbers(r *api.Rel) []*int { return []*int{&r.Off, &r.Type, &r.Sym, &r.Add} }

// turned tells r with another number in the place of number i.
func turned(r api.Rel, i, v int) api.Rel {
	*numbers(&r)[i] = v
	return r
}

// edges are numbers that may be somewhere, or nowhere.
func edges() []int {
	return []int{
		math.MinInt, math.MinInt + 1, math.MinInt + 2, math.MinInt + 4, math.MinInt + 10, math.MinInt + 11,
		-1 << 56, -1 << 48, -1 << 40, -1<<32 - 1, -1 << 32, -1<<32 + 1, -1<<32 + 2, -1<<32 + 10,
		-2147483650, -2147483649, -2147483648, -2147483647, -65537, -65536, -65535,
		-257, -256, -255, -128, -24, -12, -11, -10, -9, -8, -5, -4, -3, -2, -1,
		0, 1, 2, 3, 4, 5, 6, 7, 8, 9, 10, 11, 12, 13, 23, 24, 25, 127, 128, 255, 256, 257, 258, 260, 266, 267,
		65535, 65536, 65537, 65538, 16909060, 1 << 24, 1 << 30, api.MaxAddr - 1, api.MaxAddr,
		2147483648, 2147483649, 2147483650, 1<<32 - 1, 1 << 32, 1<<32 + 1, 1<<32 + 2, 1<<32 + 4, 1<<32 + 10, 1<<32 + 11,
		1 << 33, 1 << 40, 1 << 48, 1 << 56, 1 << 62,
		math.MaxInt - 11, math.MaxInt - 2, math.MaxInt - 1, math.MaxInt,
	}
}

// ordinary are relocations that may be, of each type; most have numbers that differ.
func ordinary() []api.Rel {
	return []api.Rel{
		{Off: 1, Type: api.RPC32, Sym: 3, Add: -4},
		{Off: 8, Type: api.R64, Sym: 5, Add: 7},
		{Off: 513, Type: api.RPLT32, Sym: 1027, Add: -66051},
		{Off: 16909060, Type: api.R32, Sym: 84281096, Add: 651345242494996240},
		{Off: 0, Type: api.R32S, Sym: 0, Add: 0},
		{Off: 2147483647, Type: api.R32S, Sym: 2147483647, Add: math.MaxInt},
		{Off: 2147483646, Type: api.R64, Sym: 2147483645, Add: math.MinInt},
		{Off: 0, Type: api.R32, Sym: 128, Add: -1},
	}
}

// around are bytes that may stand ahead of a relocation, or behind it.
func around() [][]byte {
	return [][]byte{nil, {0}, {255}, {1, 2, 3, 4}, make([]byte, 24), bytes.Repeat([]byte{255}, 100), laid(ordinary()[1])}
}

// mustPut holds what Put tells against bytes.
func mustPut(t *testing.T, r api.Rel, want []byte) {
	t.Helper()
	if b := rela.Put(r); !bytes.Equal(b, want) {
		t.Errorf("Put(%v) = %v; want %v", r, b, want)
	}
}

// mustGet holds what Get tells against a relocation.
func mustGet(t *testing.T, b []byte, at int, want api.Rel) {
	t.Helper()
	if r, ok := rela.Get(b, at); r != want || !ok {
		t.Errorf("Get(%v, %d) = %v, %v; want %v, true", b, at, r, ok, want)
	}
}

// mustGetNone holds what Get tells against a zero relocation, false.
func mustGetNone(t *testing.T, b []byte, at int) {
	t.Helper()
	if r, ok := rela.Get(b, at); r != (api.Rel{}) || ok {
		t.Errorf("Get(%v, %d) = %v, %v; want a zero relocation, false", b, at, r, ok)
	}
}

// checkRel holds Put of r, and Get of its bytes, against P7.1, P7.3.
func checkRel(t *testing.T, r api.Rel) {
	t.Helper()
	if !plainMay(r) {
		mustPut(t, r, nil)
		return
	}
	mustPut(t, r, laid(r))
	mustGet(t, laid(r), 0, r)
}

// checkBytes holds Get of 24 bytes, and Put of what it tells, against P7.1, P7.3.
func checkBytes(t *testing.T, b []byte) {
	t.Helper()
	r, ok := readPlainly(b)
	if !ok {
		mustGetNone(t, b, 0)
		return
	}
	mustGet(t, b, 0, r)
	mustPut(t, r, b)
}

// P7.1: the document's own example.
func TestTheExample(t *testing.T) {
	b := []byte{1, 0, 0, 0, 0, 0, 0, 0, 2, 0, 0, 0, 3, 0, 0, 0, 252, 255, 255, 255, 255, 255, 255, 255}
	r := api.Rel{Off: 1, Type: 2, Sym: 3, Add: -4}
	mustPut(t, r, b)
	mustGet(t, b, 0, r)
}

// P7.1: of how many bytes each type is, written by hand, and none of any other number.
func TestWidth(t *testing.T) {
	known := map[int]int{1: 8, 2: 4, 4: 4, 10: 4, 11: 4}
	for kind := -1000; kind <= 70000; kind++ {
		if n := rela.Width(kind); n != known[kind] {
			t.Errorf("Width(%d) = %d; want %d", kind, n, known[kind])
		}
	}
	for _, kind := range edges() {
		if n := rela.Width(kind); n != known[kind] {
			t.Errorf("Width(%d) = %d; want %d", kind, n, known[kind])
		}
	}
	for i := range 64 {
		for kind, n := range known {
			if got := rela.Width(kind ^ -1<<i); got != known[kind^-1<<i] {
				t.Errorf("Width(%d) = %d, as of %d (%d)", kind^-1<<i, got, kind, n)
			}
			if got := rela.Width(kind + 1<<i); got != known[kind+1<<i] {
				t.Errorf("Width(%d) = %d, as of %d (%d)", kind+1<<i, got, kind, n)
			}
		}
	}
}

// P7.1: which number stands where, and of how many bytes it is, all written by hand.
func TestBytesOfEachNumber(t *testing.T) {
	r := api.Rel{Off: 16909060, Type: api.R32S, Sym: 84281096, Add: 651345242494996240}
	b := []byte{
		4, 3, 2, 1, 0, 0, 0, 0,
		11, 0, 0, 0,
		8, 7, 6, 5,
		16, 15, 14, 13, 12, 11, 10, 9,
	}
	mustPut(t, r, b)
	mustGet(t, b, 0, r)
	full := api.Rel{Off: api.MaxAddr, Type: api.R64, Sym: api.MaxAddr, Add: -1}
	b = []byte{
		255, 255, 255, 127, 0, 0, 0, 0,
		1, 0, 0, 0,
		255, 255, 255, 127,
		255, 255, 255, 255, 255, 255, 255, 255,
	}
	mustPut(t, full, b)
	mustGet(t, b, 0, full)
}

// P7.1: Add has a sign, and all eight bytes count, written by hand.
func TestBytesOfAdd(t *testing.T) {
	for _, c := range []struct {
		add int
		b   []byte
	}{
		{0, []byte{0, 0, 0, 0, 0, 0, 0, 0}},
		{1, []byte{1, 0, 0, 0, 0, 0, 0, 0}},
		{-1, []byte{255, 255, 255, 255, 255, 255, 255, 255}},
		{-4, []byte{252, 255, 255, 255, 255, 255, 255, 255}},
		{-128, []byte{128, 255, 255, 255, 255, 255, 255, 255}},
		{2147483647, []byte{255, 255, 255, 127, 0, 0, 0, 0}},
		{2147483648, []byte{0, 0, 0, 128, 0, 0, 0, 0}},
		{4294967295, []byte{255, 255, 255, 255, 0, 0, 0, 0}},
		{4294967296, []byte{0, 0, 0, 0, 1, 0, 0, 0}},
		{-2147483648, []byte{0, 0, 0, 128, 255, 255, 255, 255}},
		{-2147483649, []byte{255, 255, 255, 127, 255, 255, 255, 255}},
		{math.MaxInt, []byte{255, 255, 255, 255, 255, 255, 255, 127}},
		{math.MinInt, []byte{0, 0, 0, 0, 0, 0, 0, 128}},
		{math.MinInt + 1, []byte{1, 0, 0, 0, 0, 0, 0, 128}},
	} {
		for _, kind := range []int{1, 2, 4, 10, 11} {
			r := api.Rel{Off: 6, Type: kind, Sym: 9, Add: c.add}
			b := slices.Concat([]byte{6, 0, 0, 0, 0, 0, 0, 0, byte(kind), 0, 0, 0, 9, 0, 0, 0}, c.b)
			mustPut(t, r, b)
			mustGet(t, b, 0, r)
		}
	}
}

// P7.1: a zero relocation is of no type, so that it may not be; with a type it may.
func TestZeroNumbers(t *testing.T) {
	mustPut(t, api.Rel{}, nil)
	mustGetNone(t, make([]byte, 24), 0)
	for _, kind := range []int{1, 2, 4, 10, 11} {
		b := make([]byte, 24)
		b[8] = byte(kind)
		mustPut(t, api.Rel{Type: kind}, b)
		mustGet(t, b, 0, api.Rel{Type: kind})
	}
}

// P7.1, P7.3: relocations that may be.
func TestOrdinaryRelocations(t *testing.T) {
	for _, r := range ordinary() {
		if !plainMay(r) {
			t.Fatalf("%v may not be", r)
		}
		checkRel(t, r)
	}
}

// P7.1: the bounds of Off and Sym, written by hand, the others ordinary.
func TestBoundsOfOffAndSym(t *testing.T) {
	for _, r := range ordinary() {
		for _, i := range []int{0, 2} {
			for _, v := range []int{0, 1, 2147483646, 2147483647} {
				good := turned(r, i, v)
				mustPut(t, good, laid(good))
				mustGet(t, laid(good), 0, good)
			}
			for _, v := range []int{-1, -2, 2147483648, 4294967296, math.MaxInt, math.MaxInt - 1, math.MinInt, math.MinInt + 1} {
				mustPut(t, turned(r, i, v), nil)
			}
		}
	}
}

// P7.1: each Type, of those that are and those around, put and got.
func TestEachType(t *testing.T) {
	for _, r := range ordinary() {
		for kind := -300; kind <= 70000; kind++ {
			r.Type = kind
			good := kind == 1 || kind == 2 || kind == 4 || kind == 10 || kind == 11
			if good {
				mustPut(t, r, laid(r))
				mustGet(t, laid(r), 0, r)
				continue
			}
			mustPut(t, r, nil)
			mustGetNone(t, laid(r), 0)
		}
	}
}

// P7.1, P7.3: each number at each edge, the others ordinary.
func TestEachNumberAtItsEdges(t *testing.T) {
	for _, r := range ordinary() {
		for i := range numbers(&r) {
			for _, v := range edges() {
				checkRel(t, turned(r, i, v))
			}
		}
	}
}

// P7.1: none has bytes of which several numbers may not be; they don't make up for each other.
func TestTwoWrongNumbers(t *testing.T) {
	r := ordinary()[1]
	for i := range numbers(&r) {
		for k := range i {
			for _, v := range edges() {
				checkRel(t, turned(turned(r, i, v), k, v))
				checkRel(t, turned(turned(r, i, v), k, -v))
				checkRel(t, turned(turned(r, i, v), k, ^v))
			}
		}
	}
}

// P7.1: each bit alone turned, where it may be and where not.
func TestEachBitTurned(t *testing.T) {
	for _, r := range ordinary() {
		for bit := range 8 * 24 {
			b := laid(r)
			b[bit/8] ^= 1 << (bit % 8)
			checkBytes(t, b)
		}
	}
}

// P7.1, P7.3: each of the 24 bytes turned to each other one.
func TestEachByteTurned(t *testing.T) {
	for _, r := range ordinary() {
		for i := range 24 {
			for c := range 256 {
				b := laid(r)
				b[i] = byte(c)
				checkBytes(t, b)
			}
		}
	}
}

// P7.1: what the bytes tell may not be: of four bytes, and of eight with upper bytes that aren't 0.
func TestGetOfNumbersThatMayNotBe(t *testing.T) {
	for _, r := range ordinary() {
		for _, v := range []uint64{
			1 << 31, 1<<31 + 1, 1<<32 - 1, 1 << 32, 1<<32 + 1, 1<<32 + 24, 1<<33 - 1, 1 << 40, 1 << 48, 1 << 56,
			1<<63 - 1, 1 << 63, 1<<63 + 1, 1<<63 + 24, math.MaxUint64 - 23, math.MaxUint64 - 1, math.MaxUint64,
		} {
			b := laid(r)
			lay(b, 0, 8, v)
			mustGetNone(t, b, 0)
			for _, at := range []int{8, 12} {
				b := laid(r)
				lay(b, at, 4, v)
				checkBytes(t, b)
				if v%(1<<32) >= 1<<31 {
					mustGetNone(t, b, 0)
				}
			}
			b = laid(r)
			lay(b, 16, 8, v)
			checkBytes(t, b)
			mustGet(t, b, 0, turned(r, 3, int(v)))
		}
	}
	mustGetNone(t, bytes.Repeat([]byte{255}, 24), 0)
	mustGetNone(t, bytes.Repeat([]byte{1}, 24), 0)
}

// P7.1: a Type counts by all its four bytes, and none of Sym's.
func TestGetOfTypesWithUpperBytes(t *testing.T) {
	for _, r := range ordinary() {
		for i := 9; i < 12; i++ {
			for c := 1; c < 256; c++ {
				b := laid(r)
				b[i] = byte(c)
				mustGetNone(t, b, 0)
			}
		}
		for c := range 128 {
			b := laid(r)
			b[12], b[15] = byte(c), byte(c)
			checkBytes(t, b)
			if _, ok := rela.Get(b, 0); !ok {
				t.Errorf("Get(%v, 0) tells false", b)
			}
		}
	}
}

// P7.1: the 24 bytes from at on, whatever stands ahead of them, and behind.
func TestGetAtEachPlace(t *testing.T) {
	var b []byte
	for _, r := range ordinary() {
		for _, ahead := range around() {
			for _, behind := range around() {
				mustGet(t, slices.Concat(ahead, laid(r), behind), len(ahead), r)
			}
		}
		b = append(b, laid(r)...)
	}
	for i, r := range ordinary() {
		mustGet(t, b, 24*i, r)
	}
	for at := range len(b) - 23 {
		want, good := readPlainly(b[at : at+24])
		if r, ok := rela.Get(b, at); r != want || ok != good {
			t.Errorf("at %d: %v, %v; want %v, %v", at, r, ok, want, good)
		}
	}
}

// P7.1: a zero relocation, false where b hasn't all 24 bytes, whatever at is.
func TestGetAtWrongPlaces(t *testing.T) {
	for size := range 80 {
		for at := -60; at <= size+60; at++ {
			b := make([]byte, size)
			if at >= 0 && at+8 < size {
				b[at+8] = api.R64
			}
			r, ok := rela.Get(b, at)
			if want := at >= 0 && at+24 <= size; ok != want || (r == api.Rel{}) == want {
				t.Fatalf("Get(%d bytes, %d) tells %v, %v; want %v", size, at, r, ok, want)
			}
		}
	}
	for _, b := range [][]byte{nil, {}, {0}, laid(ordinary()[1])[:23], laid(ordinary()[1]), append(laid(ordinary()[1]), laid(ordinary()[2])...)} {
		places := []int{-1 << 32, -2147483648, -128, -24, -23, -1, len(b) - 23, len(b) - 1, len(b), len(b) + 1, len(b) + 24, 1 << 31, 1 << 32, 1<<32 + 1, 1 << 62}
		for i := range 60 {
			places = append(places, math.MaxInt-i, math.MinInt+i)
		}
		for _, at := range places {
			if at < 0 || at > len(b)-24 {
				mustGetNone(t, b, at)
			}
		}
	}
}

// P7.1: of fewer bytes nothing is got, not even of those that the array has behind them.
func TestGetOfTooFewBytes(t *testing.T) {
	mustGetNone(t, nil, 0)
	for _, r := range ordinary() {
		array := append(laid(r), laid(r)...)
		for size := range 24 {
			mustGetNone(t, array[:size], 0)
			mustGetNone(t, slices.Clone(array[:size]), 0)
		}
		for at := 1; at <= 24; at++ {
			mustGetNone(t, array[:24], at)
			mustGetNone(t, array[:at+23], at)
		}
		mustGet(t, array[:24], 0, r)
		mustGet(t, array[:24:24], 0, r)
		mustGet(t, array[:25], 0, r)
		mustGet(t, array, 24, r)
	}
}

// R2: nothing that is handed in is changed, nor what stands around it in its array.
func TestNothingHandedInIsChanged(t *testing.T) {
	wrong := turned(ordinary()[1], 0, 1<<31)
	for _, r := range append(ordinary(), wrong) {
		array := slices.Concat([]byte{77, 88}, laid(r), []byte{11, 22, 33, 44})
		want := bytes.Clone(array)
		for size := range len(array) + 1 {
			for at := -1; at <= size; at++ {
				rela.Get(array[:size], at)
			}
		}
		if !bytes.Equal(array, want) {
			t.Errorf("%v is changed: %v", want, array)
		}
	}
}

// P7.2: no two lists that Put tells are one, nor does one hang on a list that was handed to Get.
func TestPutTellsNewMemory(t *testing.T) {
	for _, want := range ordinary() {
		handed := laid(want)
		r, _ := rela.Get(handed, 0)
		first, second := rela.Put(r), rela.Put(r)
		first = first[:cap(first)]
		for i := range first {
			first[i] = 0xee
		}
		if !bytes.Equal(second, laid(want)) {
			t.Errorf("Put(%v) hands out one list twice", r)
		}
		if !bytes.Equal(handed, laid(want)) {
			t.Errorf("what was told, changed, changes the bytes of %v", r)
		}
		for i := range handed {
			handed[i] = 0xdd
		}
		if r != want || !bytes.Equal(second, laid(want)) {
			t.Errorf("the bytes, changed, change what was told: %v", r)
		}
		mustPut(t, r, laid(want))
	}
}

// P7.3: what was put is got, wherever it stands; what is got, put, is those bytes.
func TestWhatWasPutIsGot(t *testing.T) {
	values := []int{0, api.MaxAddr}
	for i := range 31 {
		values = append(values, 1<<i-1, 1<<i, (1<<i+1)%api.MaxAddr)
	}
	kinds := []int{1, 2, 4, 10, 11}
	for i, v := range values {
		for _, add := range edges() {
			want := api.Rel{Off: v, Type: kinds[i%5], Sym: values[(5*i+3)%len(values)], Add: add}
			b := rela.Put(want)
			for _, more := range around() {
				all := slices.Concat(more, b, more)
				mustGet(t, all, len(more), want)
				got, _ := rela.Get(all, len(more))
				mustPut(t, got, laid(want))
			}
		}
	}
}
