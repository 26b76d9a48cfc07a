package shdr_test

import (
	"bytes"
	"math"
	"slices"
	"testing"

	"fishplate/api"
	"fishplate/shdr"
)

// numbers are a header's ten, in the order in which they stand.
type numbers [10]uint64

// begins tells where each number begins, and, last, where the header ends.
func begins() []int { return []int{0, 4, 8, 16, 24, 32, 40, 44, 48, 56, 64} }

// width tells of how many bytes number i is.
func width(i int) int { return begins()[i+1] - begins()[i] }

// laid tells the 64 bytes with the numbers in them, as far as they fit, written by hand.
func laid(n numbers) []byte {
	b := make([]byte, 64)
	for i, v := range n {
		for k := range width(i) {
			b[begins()[i]+k] = byte(v >> (8 * k))
		}
	}
	return b
}

// readPlainly tells the numbers of 64 bytes.
func readPlainly(b []byte) numbers {
	var n numbers
	for i := range n {
		for k := range width(i) {
			n[i] += uint64(b[begins()[i]+k]) << (8 * k)
		}
	}
	return n
}

// plainMay tells what P5.1 says of the ten numbers.
func plainMay(n numbers) bool {
	for _, v := range n {
		if v > 2147483647 {
			return false
		}
	}
	return true
}

// head tells the header of ten numbers.
func head(n numbers) shdr.Head {
	return shdr.Head{
		Name: int(n[0]), Type: int(n[1]), Flags: int(n[2]), Addr: int(n[3]), Off: int(n[4]),
		Size: int(n[5]), Link: int(n[6]), Info: int(n[7]), Align: int(n[8]), Ent: int(n[9]),
	}
}

// goodNumbers are what each number may be, wrongNumbers what none may be.
func goodNumbers() []int {
	return []int{
		0, 1, 2, 3, 127, 128, 255, 256, 257, 32767, 32768, 65535, 65536, 16909060,
		1<<24 - 1, 1 << 24, 1 << 30, api.MaxAddr - 1, api.MaxAddr,
	}
}

func wrongNumbers() []int {
	return []int{
		math.MinInt, math.MinInt + 1, math.MinInt + 2, math.MinInt + 5, -1 << 56, -1 << 48, -1 << 40,
		-1<<32 - 1, -1 << 32, -1<<32 + 1, -2147483649, -2147483648, -2147483647, -65536, -256, -255, -64, -2, -1,
		2147483648, 2147483649, 1<<32 - 1, 1 << 32, 1<<32 + 1, 1<<32 + 5, 1 << 33, 1 << 40, 1 << 48, 1 << 56, 1 << 62,
		math.MaxInt - 5, math.MaxInt - 2, math.MaxInt - 1, math.MaxInt,
	}
}

// ordinary are numbers of headers that may be; each has ten that differ, or all alike.
func ordinary() []numbers {
	return []numbers{
		{1, 2, 3, 4, 5, 6, 7, 8, 9, 10},
		{27, 1, 6, 0, 64, 4096, 0, 0, 16, 0},
		{513, 1879002115, 2097155, 131073, 16384, 66051, 258, 259, 4096, 24},
		{16909060, 84281096, 151653132, 219025168, 286397204, 353769240, 421141276, 488513312, 555885348, 623257384},
		{0, 0, 0, 0, 0, 0, 0, 0, 0, 0},
		{2147483647, 2147483647, 2147483647, 2147483647, 2147483647, 2147483647, 2147483647, 2147483647, 2147483647, 2147483647},
		{2147483638, 2147483639, 2147483640, 2147483641, 2147483642, 2147483643, 2147483644, 2147483645, 2147483646, 2147483647},
	}
}

// around are bytes that may stand ahead of a header, or behind it.
func around() [][]byte {
	return [][]byte{nil, {0}, {255}, {1, 2, 3, 4}, make([]byte, 64), bytes.Repeat([]byte{255}, 200), laid(ordinary()[0])}
}

// mustPut holds what Put tells against bytes.
func mustPut(t *testing.T, h shdr.Head, want []byte) {
	t.Helper()
	if b := shdr.Put(h); !bytes.Equal(b, want) {
		t.Errorf("Put(%v) = %v; want %v", h, b, want)
	}
}

// mustGet holds what Get tells against a header.
func mustGet(t *testing.T, b []byte, at int, want shdr.Head) {
	t.Helper()
	if h, ok := shdr.Get(b, at); h != want || !ok {
		t.Errorf("Get(%v, %d) = %v, %v; want %v, true", b, at, h, ok, want)
	}
}

// mustGetNone holds what Get tells against a zero header, false.
func mustGetNone(t *testing.T, b []byte, at int) {
	t.Helper()
	if h, ok := shdr.Get(b, at); h != (shdr.Head{}) || ok {
		t.Errorf("Get(%v, %d) = %v, %v; want a zero header, false", b, at, h, ok)
	}
}

// checkHead holds Put and Get of ten numbers against P5.1, P5.3.
func checkHead(t *testing.T, n numbers) {
	t.Helper()
	if !plainMay(n) {
		mustPut(t, head(n), nil)
		return
	}
	mustPut(t, head(n), laid(n))
	mustGet(t, laid(n), 0, head(n))
}

// checkBytes holds Get of 64 bytes against P5.1, P5.3.
func checkBytes(t *testing.T, b []byte) {
	t.Helper()
	n := readPlainly(b)
	if !plainMay(n) {
		mustGetNone(t, b, 0)
		return
	}
	mustGet(t, b, 0, head(n))
	mustPut(t, head(n), b)
}

// P5.1: which number stands where, and of how many bytes it is, all written by hand.
func TestBytesOfEachNumber(t *testing.T) {
	h := shdr.Head{Name: 257, Type: 514, Flags: 771, Addr: 1028, Off: 1285, Size: 1542, Link: 1799, Info: 2056, Align: 2313, Ent: 2570}
	b := []byte{
		1, 1, 0, 0,
		2, 2, 0, 0,
		3, 3, 0, 0, 0, 0, 0, 0,
		4, 4, 0, 0, 0, 0, 0, 0,
		5, 5, 0, 0, 0, 0, 0, 0,
		6, 6, 0, 0, 0, 0, 0, 0,
		7, 7, 0, 0,
		8, 8, 0, 0,
		9, 9, 0, 0, 0, 0, 0, 0,
		10, 10, 0, 0, 0, 0, 0, 0,
	}
	mustPut(t, h, b)
	mustGet(t, b, 0, h)
	full := shdr.Head{Name: api.MaxAddr, Type: 16909060, Size: api.MaxAddr, Link: 67305985, Ent: 16909060}
	b = slices.Concat([]byte{255, 255, 255, 127, 4, 3, 2, 1}, make([]byte, 24), []byte{255, 255, 255, 127, 0, 0, 0, 0, 1, 2, 3, 4},
		make([]byte, 12), []byte{4, 3, 2, 1, 0, 0, 0, 0})
	mustPut(t, full, b)
	mustGet(t, b, 0, full)
}

// P5.1: a zero header may be.
func TestZeroHeader(t *testing.T) {
	mustPut(t, shdr.Head{}, make([]byte, 64))
	mustGet(t, make([]byte, 64), 0, shdr.Head{})
}

// P5.1, P5.3: headers that may be.
func TestOrdinaryHeaders(t *testing.T) {
	for _, n := range ordinary() {
		if !plainMay(n) {
			t.Fatalf("%v may not be", n)
		}
		checkHead(t, n)
	}
}

// P5.1, P5.3: each number at each edge, the others ordinary.
func TestEachNumberAtItsEdges(t *testing.T) {
	for _, n := range ordinary() {
		for i := range n {
			for _, v := range append(goodNumbers(), wrongNumbers()...) {
				turned := n
				turned[i] = uint64(v)
				checkHead(t, turned)
			}
		}
	}
}

// P5.1: none has bytes of which several numbers may not be; they don't make up for each other.
func TestTwoWrongNumbers(t *testing.T) {
	for i := range 10 {
		for j := range i {
			for _, v := range wrongNumbers() {
				n := ordinary()[0]
				n[i], n[j] = uint64(v), uint64(v)
				checkHead(t, n)
				n[j] = -uint64(v)
				checkHead(t, n)
				n[j] = ^uint64(v)
				checkHead(t, n)
			}
		}
	}
	for _, v := range wrongNumbers() {
		var n numbers
		for i := range n {
			n[i] = uint64(v)
		}
		checkHead(t, n)
	}
}

// P5.1: a number with each bit alone, as bytes, where it may be and where not.
func TestEachBit(t *testing.T) {
	for _, n := range ordinary() {
		for bit := range 512 {
			b := laid(n)
			b[bit/8] ^= 1 << (bit % 8)
			checkBytes(t, b)
		}
	}
}

// P5.1, P5.3: each of the 64 bytes turned to each other one.
func TestEachByteTurned(t *testing.T) {
	for _, n := range ordinary() {
		for i := range 64 {
			for c := range 256 {
				b := laid(n)
				b[i] = byte(c)
				checkBytes(t, b)
			}
		}
	}
}

// P5.1: what the bytes tell may not be: of four bytes, and of eight with upper bytes that aren't 0.
func TestGetOfNumbersThatMayNotBe(t *testing.T) {
	for _, n := range ordinary() {
		for i := range n {
			for _, v := range []uint64{
				1 << 31, 1<<31 + 1, 1<<32 - 1, 1 << 32, 1<<32 + 1, 1<<32 + 64, 1<<33 - 1, 1 << 40, 1 << 48, 1 << 56,
				1<<63 - 1, 1 << 63, 1<<63 + 1, 1<<63 + 64, math.MaxUint64 - 63, math.MaxUint64 - 1, math.MaxUint64,
			} {
				turned := n
				turned[i] = v
				b := laid(turned)
				checkBytes(t, b)
				if width(i) == 8 || v%(1<<32) >= 1<<31 {
					mustGetNone(t, b, 0)
				}
			}
		}
	}
	mustGetNone(t, bytes.Repeat([]byte{255}, 64), 0)
	mustGetNone(t, bytes.Repeat([]byte{1}, 64), 0)
}

// P5.1: the 64 bytes from at on, whatever stands ahead of them, and behind.
func TestGetAtEachPlace(t *testing.T) {
	for _, n := range ordinary() {
		for _, ahead := range around() {
			for _, behind := range around() {
				b := slices.Concat(ahead, laid(n), behind)
				mustGet(t, b, len(ahead), head(n))
			}
		}
	}
	var b []byte
	for _, n := range ordinary() {
		b = append(b, laid(n)...)
	}
	for i, n := range ordinary() {
		mustGet(t, b, 64*i, head(n))
	}
	for at := range len(b) - 63 {
		h, ok := shdr.Get(b, at)
		n := readPlainly(b[at : at+64])
		if want := plainMay(n); ok != want || ok && h != head(n) || !ok && h != (shdr.Head{}) {
			t.Errorf("at %d: %v, %v; want %v of %v", at, h, ok, want, n)
		}
	}
}

// P5.1: a zero header, false where b hasn't all 64 bytes, whatever at is.
func TestGetAtWrongPlaces(t *testing.T) {
	for size := range 200 {
		b := make([]byte, size)
		for at := -130; at <= size+130; at++ {
			_, ok := shdr.Get(b, at)
			if want := at >= 0 && at+64 <= size; ok != want {
				t.Fatalf("Get(%d bytes, %d) tells %v; want %v", size, at, ok, want)
			}
		}
	}
	for _, b := range [][]byte{nil, {}, {0}, laid(ordinary()[0])[:63], laid(ordinary()[0]), append(laid(ordinary()[0]), laid(ordinary()[1])...)} {
		places := []int{-1 << 32, -2147483648, -128, -64, -63, -1, len(b) - 63, len(b) - 1, len(b), len(b) + 1, len(b) + 64, 1 << 31, 1 << 32, 1<<32 + 1, 1 << 62}
		for i := range 130 {
			places = append(places, math.MaxInt-i, math.MinInt+i)
		}
		for _, at := range places {
			if at < 0 || at+64 > len(b) || at+64 < 0 {
				mustGetNone(t, b, at)
			}
		}
	}
}

// P5.1: of fewer bytes nothing is got, not even of those that the array has behind them.
func TestGetOfTooFewBytes(t *testing.T) {
	mustGetNone(t, nil, 0)
	for _, n := range ordinary() {
		array := append(laid(n), laid(n)...)
		for size := range 64 {
			mustGetNone(t, array[:size], 0)
			mustGetNone(t, slices.Clone(array[:size]), 0)
		}
		for at := 1; at <= 64; at++ {
			mustGetNone(t, array[:64], at)
			mustGetNone(t, array[:at+63], at)
		}
		mustGet(t, array[:64], 0, head(n))
		mustGet(t, array[:64:64], 0, head(n))
		mustGet(t, array[:65], 0, head(n))
		mustGet(t, array, 64, head(n))
	}
}

// R2: nothing that is handed in is changed, nor what stands around it in its array.
func TestNothingHandedInIsChanged(t *testing.T) {
	wrong := ordinary()[0]
	wrong[9] = 1 << 31
	for _, n := range append(ordinary(), wrong) {
		array := slices.Concat([]byte{77, 88}, laid(n), []byte{11, 22, 33, 44})
		want := bytes.Clone(array)
		for size := range len(array) + 1 {
			for at := -1; at <= size; at++ {
				shdr.Get(array[:size], at)
			}
		}
		if !bytes.Equal(array, want) {
			t.Errorf("%v is changed: %v", want, array)
		}
	}
}

// P5.2: no two lists that Put tells are one, nor does one hang on a list that was handed to Get.
func TestPutTellsNewMemory(t *testing.T) {
	for _, n := range ordinary() {
		handed := laid(n)
		h, _ := shdr.Get(handed, 0)
		first, second := shdr.Put(h), shdr.Put(h)
		first = first[:cap(first)]
		for i := range first {
			first[i] = 0xee
		}
		if !bytes.Equal(second, laid(n)) {
			t.Errorf("Put(%v) hands out one list twice", h)
		}
		if !bytes.Equal(handed, laid(n)) {
			t.Errorf("what was told, changed, changes the bytes of %v", h)
		}
		for i := range handed {
			handed[i] = 0xdd
		}
		if h != head(n) || !bytes.Equal(second, laid(n)) {
			t.Errorf("the bytes, changed, change what was told: %v", h)
		}
		mustPut(t, h, laid(n))
	}
}

// P5.3: what was put is got, wherever it stands; what is got, put, is those bytes.
func TestWhatWasPutIsGot(t *testing.T) {
	values := goodNumbers()
	for i := range 31 {
		values = append(values, 1<<i-1, 1<<i, 1<<i+1)
	}
	for i, v := range values {
		var n numbers
		for k := range n {
			n[k] = uint64(values[(i+k*(1+i%7))%len(values)])
		}
		n[i%10] = uint64(v)
		b := shdr.Put(head(n))
		for _, more := range around() {
			all := slices.Concat(more, b, more)
			mustGet(t, all, len(more), head(n))
			got, _ := shdr.Get(all, len(more))
			mustPut(t, got, laid(n))
		}
	}
}
