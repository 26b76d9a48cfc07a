package sym_test

import (
	"bytes"
	"math"
	"slices"
	"testing"

	"fishplate/api"
	"fishplate/sym"
)

// laid tells the 24 bytes of e, as far as its numbers fit, written by hand.
func laid(e sym.Entry) []byte {
	b := make([]byte, 24)
	lay(b, 0, 4, uint64(e.Name))
	b[4] = byte(e.Bind<<4 | e.Type&15)
	lay(b, 6, 2, uint64(e.Index))
	lay(b, 8, 8, uint64(e.Value))
	lay(b, 16, 8, uint64(e.Size))
	return b
}

// lay writes the lowest n bytes of v from at on.
func lay(b []byte, at, n int, v uint64) {
	for k := range n {
		b[at+k] = byte(v >> (8 * k))
	}
}

// readPlainly tells what P6.1 says of 24 bytes: their entry, true, or a zero one, false.
func readPlainly(b []byte) (sym.Entry, bool) {
	read := func(at, n int) uint64 {
		var v uint64
		for k := range n {
			v += uint64(b[at+k]) << (8 * k)
		}
		return v
	}
	name, index, value, size := read(0, 4), read(6, 2), read(8, 8), read(16, 8)
	if name > 2147483647 || value > 2147483647 || size > 2147483647 {
		return sym.Entry{}, false
	}
	if b[4]>>4 > 2 || b[4]&15 > 3 || b[5] != 0 {
		return sym.Entry{}, false
	}
	return sym.Entry{
		Name: int(name), Bind: int(b[4] >> 4), Type: int(b[4] & 15),
		Index: int(index), Value: int(value), Size: int(size),
	}, true
}

// plainMay tells what P6.1 says of an entry.
func plainMay(e sym.Entry) bool {
	for _, v := range []int{e.Name, e.Value, e.Size} {
		if v < 0 || v > 2147483647 {
			return false
		}
	}
	if e.Bind != 0 && e.Bind != 1 && e.Bind != 2 {
		return false
	}
	if e.Type != 0 && e.Type != 1 && e.Type != 2 && e.Type != 3 {
		return false
	}
	return e.Index >= 0 && e.Index <= 65535
}

// numbers tells where e's numbers are, so that each can be turned.
func numbers(e *sym.Entry) []*int {
	return []*int{&e.Name, &e.Bind, &e.Type, &e.Index, &e.Value, &e.Size}
}

// turned tells e with another number in the place of number i.
func turned(e sym.Entry, i, v int) sym.Entry {
	*numbers(&e)[i] = v
	return e
}

// edges are numbers that may be somewhere, or nowhere.
func edges() []int {
	return []int{
		math.MinInt, math.MinInt + 1, math.MinInt + 2, math.MinInt + 5, -1 << 56, -1 << 48, -1 << 40,
		-1<<32 - 1, -1 << 32, -1<<32 + 1, -2147483649, -2147483648, -2147483647, -65537, -65536, -65535,
		-257, -256, -255, -64, -16, -15, -4, -3, -2, -1,
		0, 1, 2, 3, 4, 5, 15, 16, 17, 18, 31, 32, 127, 128, 255, 256, 257, 258, 259, 260, 512, 32767, 32768,
		65280, 65534, 65535, 65536, 65537, 16909060, 1<<24 - 1, 1 << 24, 1 << 30, api.MaxAddr - 1, api.MaxAddr,
		2147483648, 2147483649, 1<<32 - 1, 1 << 32, 1<<32 + 1, 1<<32 + 2, 1<<32 + 5, 1 << 33, 1 << 40, 1 << 48, 1 << 56, 1 << 62,
		math.MaxInt - 5, math.MaxInt - 2, math.MaxInt - 1, math.MaxInt,
	}
}

// ordinary are entries that may be; most have numbers that differ.
func ordinary() []sym.Entry {
	return []sym.Entry{
		{Name: 1, Bind: 1, Type: 2, Index: 3},
		{Name: 5, Bind: 2, Type: 3, Index: 7, Value: 11, Size: 13},
		{Name: 513, Bind: 0, Type: 1, Index: 1027, Value: 66051, Size: 131073},
		{Name: 16909060, Bind: 1, Type: 0, Index: 258, Value: 84281096, Size: 151653132},
		{},
		{Name: 2147483647, Bind: 2, Type: 3, Index: 65535, Value: 2147483647, Size: 2147483647},
		{Name: 2147483646, Bind: 2, Type: 2, Index: 65534, Value: 2147483645, Size: 2147483644},
		{Name: 0, Bind: 1, Type: 1, Index: 65521, Value: 0, Size: 4096},
	}
}

// around are bytes that may stand ahead of an entry, or behind it.
func around() [][]byte {
	return [][]byte{nil, {0}, {255}, {1, 2, 3, 4}, make([]byte, 24), bytes.Repeat([]byte{255}, 100), laid(ordinary()[1])}
}

// mustPut holds what Put tells against bytes.
func mustPut(t *testing.T, e sym.Entry, want []byte) {
	t.Helper()
	if b := sym.Put(e); !bytes.Equal(b, want) {
		t.Errorf("Put(%v) = %v; want %v", e, b, want)
	}
}

// mustGet holds what Get tells against an entry.
func mustGet(t *testing.T, b []byte, at int, want sym.Entry) {
	t.Helper()
	if e, ok := sym.Get(b, at); e != want || !ok {
		t.Errorf("Get(%v, %d) = %v, %v; want %v, true", b, at, e, ok, want)
	}
}

// mustGetNone holds what Get tells against a zero entry, false.
func mustGetNone(t *testing.T, b []byte, at int) {
	t.Helper()
	if e, ok := sym.Get(b, at); e != (sym.Entry{}) || ok {
		t.Errorf("Get(%v, %d) = %v, %v; want a zero entry, false", b, at, e, ok)
	}
}

// checkEntry holds Put of e, and Get of its bytes, against P6.1, P6.3.
func checkEntry(t *testing.T, e sym.Entry) {
	t.Helper()
	if !plainMay(e) {
		mustPut(t, e, nil)
		return
	}
	mustPut(t, e, laid(e))
	mustGet(t, laid(e), 0, e)
}

// checkBytes holds Get of 24 bytes, and Put of what it tells, against P6.1, P6.3.
func checkBytes(t *testing.T, b []byte) {
	t.Helper()
	e, ok := readPlainly(b)
	if !ok {
		mustGetNone(t, b, 0)
		return
	}
	mustGet(t, b, 0, e)
	mustPut(t, e, b)
}

// P6.1: the document's own example.
func TestTheExample(t *testing.T) {
	b := []byte{1, 0, 0, 0, 18, 0, 3, 0, 0, 0, 0, 0, 0, 0, 0, 0, 0, 0, 0, 0, 0, 0, 0, 0}
	e := sym.Entry{Name: 1, Bind: 1, Type: 2, Index: 3}
	mustPut(t, e, b)
	mustGet(t, b, 0, e)
}

// P6.1: which number stands where, and of how many bytes it is, all written by hand.
func TestBytesOfEachNumber(t *testing.T) {
	e := sym.Entry{Name: 16909060, Bind: api.Weak, Type: 3, Index: 1286, Value: 117967114, Size: 185339150}
	b := []byte{
		4, 3, 2, 1,
		35,
		0,
		6, 5,
		10, 9, 8, 7, 0, 0, 0, 0,
		14, 13, 12, 11, 0, 0, 0, 0,
	}
	mustPut(t, e, b)
	mustGet(t, b, 0, e)
	full := sym.Entry{Name: api.MaxAddr, Bind: api.Local, Type: 1, Index: 65535, Value: api.MaxAddr, Size: api.MaxAddr}
	b = []byte{
		255, 255, 255, 127, 1, 0, 255, 255,
		255, 255, 255, 127, 0, 0, 0, 0,
		255, 255, 255, 127, 0, 0, 0, 0,
	}
	mustPut(t, full, b)
	mustGet(t, b, 0, full)
}

// P6.1: a zero entry may be.
func TestZeroEntry(t *testing.T) {
	mustPut(t, sym.Entry{}, make([]byte, 24))
	mustGet(t, make([]byte, 24), 0, sym.Entry{})
}

// P6.1, P6.3: entries that may be.
func TestOrdinaryEntries(t *testing.T) {
	for _, e := range ordinary() {
		if !plainMay(e) {
			t.Fatalf("%v may not be", e)
		}
		checkEntry(t, e)
	}
}

// P6.1: the bounds of each number, written by hand, the others ordinary.
func TestBoundsOfEachNumber(t *testing.T) {
	e := ordinary()[1]
	for i, bound := range []int{2147483647, 2, 3, 65535, 2147483647, 2147483647} {
		for _, v := range []int{0, 1, bound - 1, bound} {
			good := turned(e, i, v)
			mustPut(t, good, laid(good))
			mustGet(t, laid(good), 0, good)
		}
		for _, v := range []int{-1, bound + 1, math.MaxInt, math.MinInt} {
			mustPut(t, turned(e, i, v), nil)
		}
	}
}

// P6.1, P6.3: each number at each edge, the others ordinary.
func TestEachNumberAtItsEdges(t *testing.T) {
	for _, e := range ordinary() {
		for i := range numbers(&e) {
			for _, v := range edges() {
				checkEntry(t, turned(e, i, v))
			}
		}
	}
}

// P6.1: none has bytes of which several numbers may not be; they don't make up for each other.
func TestTwoWrongNumbers(t *testing.T) {
	e := ordinary()[1]
	for i := range numbers(&e) {
		for k := range i {
			for _, v := range edges() {
				checkEntry(t, turned(turned(e, i, v), k, v))
				checkEntry(t, turned(turned(e, i, v), k, -v))
				checkEntry(t, turned(turned(e, i, v), k, ^v))
			}
		}
	}
}

// P6.1: Bind and Type share a byte, but a Type that may not be doesn't pass as another Bind's.
func TestEachBindWithEachType(t *testing.T) {
	for _, e := range ordinary() {
		for bind := -40; bind <= 300; bind++ {
			for kind := -40; kind <= 300; kind++ {
				e.Bind, e.Type = bind, kind
				checkEntry(t, e)
			}
		}
	}
}

// P6.1: each Index that may be, and those around them.
func TestEachIndex(t *testing.T) {
	e := ordinary()[1]
	for index := -300; index <= 65535+300; index++ {
		e.Index = index
		checkEntry(t, e)
	}
}

// P6.1: each value of the byte with Bind and Type; twelve of them may be.
func TestEachByteOfBindAndType(t *testing.T) {
	for _, e := range ordinary() {
		good := 0
		for c := range 256 {
			b := laid(e)
			b[4] = byte(c)
			checkBytes(t, b)
			if _, ok := sym.Get(b, 0); ok {
				good++
			}
		}
		if good != 12 {
			t.Errorf("%d values of the byte may be; want 12", good)
		}
	}
}

// P6.1: each value of the sixth byte; just 0 may be.
func TestEachSixthByte(t *testing.T) {
	for _, e := range ordinary() {
		mustGet(t, laid(e), 0, e)
		for c := 1; c < 256; c++ {
			b := laid(e)
			b[5] = byte(c)
			mustGetNone(t, b, 0)
		}
	}
}

// P6.1: each bit alone turned, where it may be and where not.
func TestEachBitTurned(t *testing.T) {
	for _, e := range ordinary() {
		for bit := range 8 * 24 {
			b := laid(e)
			b[bit/8] ^= 1 << (bit % 8)
			checkBytes(t, b)
		}
	}
}

// P6.1, P6.3: each of the 24 bytes turned to each other one.
func TestEachByteTurned(t *testing.T) {
	for _, e := range ordinary() {
		for i := range 24 {
			for c := range 256 {
				b := laid(e)
				b[i] = byte(c)
				checkBytes(t, b)
			}
		}
	}
}

// P6.1: what the bytes tell may not be: of four bytes, and of eight with upper bytes that aren't 0.
func TestGetOfNumbersThatMayNotBe(t *testing.T) {
	for _, e := range ordinary() {
		for _, v := range []uint64{
			1 << 31, 1<<31 + 1, 1<<32 - 1, 1 << 32, 1<<32 + 1, 1<<32 + 24, 1<<33 - 1, 1 << 40, 1 << 48, 1 << 56,
			1<<63 - 1, 1 << 63, 1<<63 + 1, 1<<63 + 24, math.MaxUint64 - 23, math.MaxUint64 - 1, math.MaxUint64,
		} {
			for _, at := range []int{8, 16} {
				b := laid(e)
				lay(b, at, 8, v)
				mustGetNone(t, b, 0)
			}
			b := laid(e)
			lay(b, 0, 4, v)
			checkBytes(t, b)
			if v%(1<<32) >= 1<<31 {
				mustGetNone(t, b, 0)
			}
		}
	}
	mustGetNone(t, bytes.Repeat([]byte{255}, 24), 0)
	mustGetNone(t, bytes.Repeat([]byte{1}, 24), 0)
}

// P6.1: the 24 bytes from at on, whatever stands ahead of them, and behind.
func TestGetAtEachPlace(t *testing.T) {
	var b []byte
	for _, e := range ordinary() {
		for _, ahead := range around() {
			for _, behind := range around() {
				mustGet(t, slices.Concat(ahead, laid(e), behind), len(ahead), e)
			}
		}
		b = append(b, laid(e)...)
	}
	for i, e := range ordinary() {
		mustGet(t, b, 24*i, e)
	}
	for at := range len(b) - 23 {
		want, good := readPlainly(b[at : at+24])
		if e, ok := sym.Get(b, at); e != want || ok != good {
			t.Errorf("at %d: %v, %v; want %v, %v", at, e, ok, want, good)
		}
	}
}

// P6.1: a zero entry, false where b hasn't all 24 bytes, whatever at is.
func TestGetAtWrongPlaces(t *testing.T) {
	for size := range 80 {
		b := make([]byte, size)
		for at := -60; at <= size+60; at++ {
			_, ok := sym.Get(b, at)
			if want := at >= 0 && at+24 <= size; ok != want {
				t.Fatalf("Get(%d bytes, %d) tells %v; want %v", size, at, ok, want)
			}
		}
	}
	for _, b := range [][]byte{nil, {}, {0}, laid(ordinary()[1])[:23], laid(ordinary()[1]), append(laid(ordinary()[1]), laid(ordinary()[2])...)} {
		places := []int{-1 << 32, -2147483648, -128, -24, -23, -1, len(b) - 23, len(b) - 1, len(b), len(b) + 1, len(b) + 24, 1 << 31, 1 << 32, 1<<32 + 1, 1 << 62}
		for i := range 60 {
			places = append(places, math.MaxInt-i, math.MinInt+i)
		}
		for _, at := range places {
			if at < 0 || at > len(b)-24 {
				mustGetNone(t, b, at)
			}
		}
	}
}

// P6.1: of fewer bytes nothing is got, not even of those that the array has behind them.
func TestGetOfTooFewBytes(t *testing.T) {
	mustGetNone(t, nil, 0)
	for _, e := range ordinary() {
		array := append(laid(e), laid(e)...)
		for size := range 24 {
			mustGetNone(t, array[:size], 0)
			mustGetNone(t, slices.Clone(array[:size]), 0)
		}
		for at := 1; at <= 24; at++ {
			mustGetNone(t, array[:24], at)
			mustGetNone(t, array[:at+23], at)
		}
		mustGet(t, array[:24], 0, e)
		mustGet(t, array[:24:24], 0, e)
		mustGet(t, array[:25], 0, e)
		mustGet(t, array, 24, e)
	}
}

// R2: nothing that is handed in is changed, nor what stands around it in its array.
func TestNothingHandedInIsChanged(t *testing.T) {
	wrong := turned(ordinary()[1], 5, 1<<31)
	for _, e := range append(ordinary(), wrong) {
		array := slices.Concat([]byte{77, 88}, laid(e), []byte{11, 22, 33, 44})
		want := bytes.Clone(array)
		for size := range len(array) + 1 {
			for at := -1; at <= size; at++ {
				sym.Get(array[:size], at)
			}
		}
		if !bytes.Equal(array, want) {
			t.Errorf("%v is changed: %v", want, array)
		}
	}
}

// P6.2: no two lists that Put tells are one, nor does one hang on a list that was handed to Get.
func TestPutTellsNewMemory(t *testing.T) {
	for _, want := range ordinary() {
		handed := laid(want)
		e, _ := sym.Get(handed, 0)
		first, second := sym.Put(e), sym.Put(e)
		first = first[:cap(first)]
		for i := range first {
			first[i] = 0xee
		}
		if !bytes.Equal(second, laid(want)) {
			t.Errorf("Put(%v) hands out one list twice", e)
		}
		if !bytes.Equal(handed, laid(want)) {
			t.Errorf("what was told, changed, changes the bytes of %v", e)
		}
		for i := range handed {
			handed[i] = 0xdd
		}
		if e != want || !bytes.Equal(second, laid(want)) {
			t.Errorf("the bytes, changed, change what was told: %v", e)
		}
		mustPut(t, e, laid(want))
	}
}

// P6.3: what was put is got, wherever it stands; what is got, put, is those bytes.
func TestWhatWasPutIsGot(t *testing.T) {
	values := []int{0, api.MaxAddr}
	for i := range 31 {
		values = append(values, 1<<i-1, 1<<i, (1<<i+1)%api.MaxAddr)
	}
	for i, v := range values {
		want := sym.Entry{
			Name: v, Bind: i % 3, Type: i % 4, Index: v % 65536,
			Value: values[(i+7)%len(values)], Size: values[(5*i+3)%len(values)],
		}
		b := sym.Put(want)
		for _, more := range around() {
			all := slices.Concat(more, b, more)
			mustGet(t, all, len(more), want)
			got, _ := sym.Get(all, len(more))
			mustPut(t, got, laid(want))
		}
	}
}
