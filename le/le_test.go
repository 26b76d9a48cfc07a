package le_test

import (
	"bytes"
	"math"
	"testing"

	"fishplate/le"
)

const marked uint64 = 0x8877665544332211

// all is the bytes of marked with one more ahead and one more behind.
func all() []byte {
	return []byte{0xa0, 0x11, 0x22, 0x33, 0x44, 0x55, 0x66, 0x77, 0x88, 0xb0}
}

// low tells the lowest n bytes of v as a number.
func low(v uint64, n int) uint64 {
	if n == 8 {
		return v
	}
	return v % (1 << (8 * n))
}

func widths() []int { return []int{1, 2, 4, 8} }

func wrongWidths() []int {
	return []int{math.MinInt, math.MinInt + 1, -8, -4, -2, -1, 0, 3, 5, 6, 7, 9, 10, 16, 32, 64, math.MaxInt - 1, math.MaxInt}
}

// wrongPlaces are places at which no b of so many bytes has n.
func wrongPlaces(size, n int) []int {
	return []int{
		math.MinInt, math.MinInt + 1, math.MinInt + n, -n - 1, -n, -1,
		size - n + 1, size, size + 1,
		math.MaxInt - n - 1, math.MaxInt - n, math.MaxInt - n + 1, math.MaxInt - 1, math.MaxInt,
	}
}

// P1.1: the number of the n bytes from at on, the lowest first.
func TestGetTellsTheNumber(t *testing.T) {
	for _, c := range []struct {
		at, n int
		want  uint64
	}{
		{1, 1, 0x11}, {1, 2, 0x2211}, {1, 4, 0x44332211}, {1, 8, marked},
		{0, 1, 0xa0}, {0, 2, 0x11a0}, {0, 4, 0x332211a0}, {0, 8, 0x77665544332211a0},
		{9, 1, 0xb0}, {8, 2, 0xb088}, {6, 4, 0xb0887766}, {2, 8, 0xb088776655443322},
	} {
		if v, ok := le.Get(all(), c.at, c.n); v != c.want || !ok {
			t.Errorf("Get(at %d, n %d) = %x, %v; want %x", c.at, c.n, v, ok, c.want)
		}
	}
	if v, ok := le.Get([]byte{255, 255, 255, 255, 255, 255, 255, 255}, 0, 8); v != math.MaxUint64 || !ok {
		t.Errorf("Get of the greatest number = %x, %v", v, ok)
	}
	if v, ok := le.Get([]byte{0, 0, 0, 0}, 0, 4); v != 0 || !ok {
		t.Errorf("Get of 0 = %x, %v", v, ok)
	}
}

// P1.1: the last place that fits is got, and the first that doesn't is not.
func TestGetAtTheLastPlace(t *testing.T) {
	for _, n := range widths() {
		for size := 0; size <= len(all()); size++ {
			b := all()[:size]
			for at := -2; at <= size+2; at++ {
				_, ok := le.Get(b, at, n)
				if want := at >= 0 && at+n <= size; ok != want {
					t.Errorf("Get(%d bytes, at %d, n %d) = %v; want %v", size, at, n, ok, want)
				}
			}
		}
	}
}

// P1.1: 0, false where b hasn't all the bytes, whatever at is.
func TestGetAtWrongPlaces(t *testing.T) {
	for _, n := range widths() {
		for _, b := range [][]byte{nil, {}, all()[:1], all()} {
			for _, at := range wrongPlaces(len(b), n) {
				if v, ok := le.Get(b, at, n); v != 0 || ok {
					t.Errorf("Get(%d bytes, at %d, n %d) = %x, %v", len(b), at, n, v, ok)
				}
			}
		}
	}
}

// P1.1: 0, false of a width that is none, whatever at is.
func TestGetOfWrongWidths(t *testing.T) {
	for _, n := range wrongWidths() {
		for _, at := range []int{math.MinInt, -1, 0, 1, 9, 10, 11, math.MaxInt} {
			if v, ok := le.Get(all(), at, n); v != 0 || ok {
				t.Errorf("Get(at %d, n %d) = %x, %v", at, n, v, ok)
			}
		}
	}
}

// P1.1: only the bytes that b has are got, not those that its array has behind them.
func TestGetLooksAtNoSpareRoom(t *testing.T) {
	b := all()[:3]
	if v, ok := le.Get(b, 0, 4); v != 0 || ok {
		t.Errorf("Get = %x, %v", v, ok)
	}
	if v, ok := le.Get(b, 2, 2); v != 0 || ok {
		t.Errorf("Get = %x, %v", v, ok)
	}
}

// P1.1: the lowest n bytes of v, the lowest first.
func TestPutTellsTheLowestBytes(t *testing.T) {
	for _, c := range []struct {
		v    uint64
		n    int
		want []byte
	}{
		{258, 4, []byte{2, 1, 0, 0}},
		{marked, 1, []byte{0x11}},
		{marked, 2, []byte{0x11, 0x22}},
		{marked, 4, []byte{0x11, 0x22, 0x33, 0x44}},
		{marked, 8, []byte{0x11, 0x22, 0x33, 0x44, 0x55, 0x66, 0x77, 0x88}},
		{0, 1, []byte{0}},
		{0, 8, make([]byte, 8)},
		{256, 1, []byte{0}},
		{255, 2, []byte{255, 0}},
		{1 << 63, 8, []byte{0, 0, 0, 0, 0, 0, 0, 128}},
		{math.MaxUint64, 8, []byte{255, 255, 255, 255, 255, 255, 255, 255}},
	} {
		if b := le.Put(c.v, c.n); !bytes.Equal(b, c.want) {
			t.Errorf("Put(%x, %d) = %v; want %v", c.v, c.n, b, c.want)
		}
	}
}

// P1.1: no bytes of a width that is none.
func TestPutOfWrongWidths(t *testing.T) {
	for _, n := range wrongWidths() {
		for _, v := range []uint64{0, 1, marked, math.MaxUint64} {
			if b := le.Put(v, n); len(b) != 0 {
				t.Errorf("Put(%x, %d) = %v", v, n, b)
			}
		}
	}
}

// P1.1: b, with the lowest n bytes from at on.
func TestLayTellsTheBytes(t *testing.T) {
	for _, c := range []struct {
		at, n int
		v     uint64
		want  []byte
	}{
		{0, 1, 0x10203, []byte{3, 9, 9, 9, 9, 9, 9, 9, 9}},
		{3, 2, 0x10203, []byte{9, 9, 9, 3, 2, 9, 9, 9, 9}},
		{3, 4, 0x10203, []byte{9, 9, 9, 3, 2, 1, 0, 9, 9}},
		{1, 8, 0x10203, []byte{9, 3, 2, 1, 0, 0, 0, 0, 0}},
		{0, 8, marked, []byte{0x11, 0x22, 0x33, 0x44, 0x55, 0x66, 0x77, 0x88, 9}},
		{8, 1, 0, []byte{9, 9, 9, 9, 9, 9, 9, 9, 0}},
		{5, 4, 0, []byte{9, 9, 9, 9, 9, 0, 0, 0, 0}},
	} {
		b := bytes.Repeat([]byte{9}, 9)
		if laid := le.Lay(b, c.at, c.n, c.v); !bytes.Equal(laid, c.want) {
			t.Errorf("Lay(at %d, n %d, %x) = %v; want %v", c.at, c.n, c.v, laid, c.want)
		}
	}
}

// P1.1: b as it is where it hasn't all the bytes, not even the first of them laid, nor more bytes.
func TestLayAtWrongPlaces(t *testing.T) {
	for _, n := range widths() {
		for _, b := range [][]byte{nil, {}, all()[:1], all()} {
			for _, at := range wrongPlaces(len(b), n) {
				if laid := le.Lay(b, at, n, math.MaxUint64); !bytes.Equal(laid, b) {
					t.Errorf("Lay(%d bytes, at %d, n %d) = %v", len(b), at, n, laid)
				}
			}
		}
	}
}

// P1.1: b as it is of a width that is none, whatever at is.
func TestLayOfWrongWidths(t *testing.T) {
	for _, n := range wrongWidths() {
		for _, at := range []int{math.MinInt, -1, 0, 1, 9, 10, 11, math.MaxInt} {
			if laid := le.Lay(all(), at, n, math.MaxUint64); !bytes.Equal(laid, all()) {
				t.Errorf("Lay(at %d, n %d) = %v", at, n, laid)
			}
		}
	}
}

// R2: nothing that is handed in is changed, nor what stands behind it in its array.
func TestNothingHandedInIsChanged(t *testing.T) {
	for _, n := range append(widths(), wrongWidths()...) {
		for _, at := range []int{math.MinInt, -1, 0, 1, 5, 6, 7, math.MaxInt} {
			array := all()
			b := array[:6]
			le.Get(b, at, n)
			le.Lay(b, at, n, math.MaxUint64)
			if !bytes.Equal(array, all()) {
				t.Errorf("at %d, n %d: %v", at, n, array)
			}
		}
	}
}

// fill writes over all that a list has, and over the spare room behind it.
func fill(b []byte) {
	b = b[:cap(b)]
	for i := range b {
		b[i] = 0xee
	}
}

// P1.2: what Lay tells shares nothing with b, also where b is told as it is.
func TestLayTellsNewMemory(t *testing.T) {
	for _, c := range []struct{ at, n int }{
		{0, 1}, {2, 2}, {2, 4}, {0, 8}, {2, 8}, // laid
		{3, 8}, {10, 1}, {-1, 2}, {math.MaxInt, 8}, {math.MinInt, 4}, // hasn't all
		{0, 0}, {0, 3}, {0, -1}, {0, 16}, // no width
	} {
		b := all()
		first := le.Lay(b, c.at, c.n, marked)
		want := bytes.Clone(first)
		fill(first)
		if !bytes.Equal(b, all()) {
			t.Errorf("at %d, n %d: what was told, changed, changes b: %v", c.at, c.n, b)
		}
		second := le.Lay(b, c.at, c.n, marked)
		fill(b)
		if !bytes.Equal(second, want) {
			t.Errorf("at %d, n %d: b, changed, changes what was told: %v", c.at, c.n, second)
		}
	}
}

// P1.2: no two lists that Put tells are one.
func TestPutTellsNewMemory(t *testing.T) {
	for _, n := range widths() {
		for _, v := range []uint64{0, 1, marked} {
			first, second := le.Put(v, n), le.Put(v, n)
			want := bytes.Clone(second)
			fill(first)
			if !bytes.Equal(second, want) || !bytes.Equal(le.Put(v, n), want) {
				t.Errorf("Put(%x, %d) hands out one list twice", v, n)
			}
		}
	}
}

func numbers() []uint64 {
	l := []uint64{0, marked, math.MaxUint64, math.MaxUint64 - 1, 0x0102030405060708}
	for i := range 64 {
		l = append(l, 1<<i, 1<<i-1, 1<<i+1)
	}
	return l
}

// P1.3: what was put is got, as far as it fits.
func TestWhatWasPutIsGot(t *testing.T) {
	for _, n := range widths() {
		for _, v := range numbers() {
			b := le.Put(v, n)
			if len(b) != n {
				t.Fatalf("Put(%x, %d) has %d bytes", v, n, len(b))
			}
			if got, ok := le.Get(b, 0, n); got != low(v, n) || !ok {
				t.Errorf("Get of Put(%x, %d) = %x, %v", v, n, got, ok)
			}
		}
	}
}

// P1.3: what was laid is got, and all other bytes stay.
func TestWhatWasLaidIsGot(t *testing.T) {
	for _, n := range widths() {
		for at := 0; at+n <= len(all()); at++ {
			for _, v := range numbers() {
				laid := le.Lay(all(), at, n, v)
				if len(laid) != len(all()) {
					t.Fatalf("Lay(at %d, n %d) has %d bytes", at, n, len(laid))
				}
				if got, ok := le.Get(laid, at, n); got != low(v, n) || !ok {
					t.Errorf("Get of Lay(at %d, n %d, %x) = %x, %v", at, n, v, got, ok)
				}
				if !bytes.Equal(laid[:at], all()[:at]) || !bytes.Equal(laid[at+n:], all()[at+n:]) {
					t.Errorf("Lay(at %d, n %d, %x) changes other bytes: %v", at, n, v, laid)
				}
			}
		}
	}
}
