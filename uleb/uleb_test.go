package uleb_test

import (
	"bytes"
	"math"
	"slices"
	"testing"

	"fishplate/api"
	"fishplate/uleb"
)

// digits are a number, and the fewest bytes it has.
type digits struct {
	n int
	b []byte
}

// known are numbers at the edges of each count of digits, their bytes written by hand.
func known() []digits {
	return []digits{
		{0, []byte{0}},
		{1, []byte{1}},
		{127, []byte{127}},
		{128, []byte{128, 1}},
		{129, []byte{129, 1}},
		{255, []byte{255, 1}},
		{256, []byte{128, 2}},
		{300, []byte{172, 2}},
		{16383, []byte{255, 127}},
		{16384, []byte{128, 128, 1}},
		{2097151, []byte{255, 255, 127}},
		{2097152, []byte{128, 128, 128, 1}},
		{268435455, []byte{255, 255, 255, 127}},
		{268435456, []byte{128, 128, 128, 128, 1}},
		{287454020, []byte{196, 230, 136, 137, 1}},
		{api.MaxAddr - 1, []byte{254, 255, 255, 255, 7}},
		{api.MaxAddr, []byte{255, 255, 255, 255, 7}},
	}
}

// numbers are those near each power of 2, and the known ones.
func numbers() []int {
	var l []int
	for _, k := range known() {
		l = append(l, k.n)
	}
	for i := range 31 {
		l = append(l, 1<<i-1, 1<<i, 1<<i+1)
	}
	return append(l, api.MaxAddr-1, api.MaxAddr)
}

func wrongNumbers() []int {
	return []int{
		math.MinInt, math.MinInt + 1, -api.MaxAddr - 2, -api.MaxAddr - 1, -api.MaxAddr, -300, -128, -127, -2, -1,
		api.MaxAddr + 1, api.MaxAddr + 2, 1<<32 - 1, 1 << 32, 1<<32 + 1, 1<<35 - 1, 1 << 35, math.MaxInt - 1, math.MaxInt,
	}
}

// none are bytes with which no number begins.
func none() [][]byte {
	return [][]byte{
		nil, {},
		// they end within a number
		{128}, {255}, {128, 128}, {172, 130}, {128, 128, 128}, {255, 255, 255, 255}, {128, 128, 128, 128, 128},
		// a sixth digit, be it 0
		{128, 128, 128, 128, 128, 0}, {129, 128, 128, 128, 128, 0}, {128, 128, 128, 128, 128, 1},
		{255, 255, 255, 255, 135, 0}, {128, 128, 128, 128, 128, 128, 0}, {255, 255, 255, 255, 255, 255, 127},
		// five digits above MaxAddr
		{128, 128, 128, 128, 8}, {129, 128, 128, 128, 8}, {255, 255, 255, 255, 8}, {128, 128, 128, 128, 15},
		{128, 128, 128, 128, 16}, {129, 128, 128, 128, 16}, {128, 128, 128, 128, 32}, {128, 128, 128, 128, 64},
		{255, 255, 255, 255, 127},
	}
}

// behind are bytes that may stand behind a number.
func behind() [][]byte {
	return [][]byte{nil, {0}, {1}, {127}, {128}, {255}, {0, 0, 0, 0, 0}, {128, 128, 128, 128, 128, 128}, {255, 255, 255, 255, 255, 127}}
}

// mustGet holds what Get tells of a number that begins at at against what it must tell.
func mustGet(t *testing.T, b []byte, at, want, next int) {
	t.Helper()
	if n, to, ok := uleb.Get(b, at); n != want || to != next || !ok {
		t.Errorf("Get(%v, %d) = %d, %d, %v; want %d, %d, true", b, at, n, to, ok, want, next)
	}
}

// mustGetNone holds what Get tells against 0, 0, false.
func mustGetNone(t *testing.T, b []byte, at int) {
	t.Helper()
	if n, to, ok := uleb.Get(b, at); n != 0 || to != 0 || ok {
		t.Errorf("Get(%v, %d) = %d, %d, %v; want 0, 0, false", b, at, n, to, ok)
	}
}

// mustListNone holds what List tells against none, false.
func mustListNone(t *testing.T, b []byte) {
	t.Helper()
	if l, ok := uleb.List(b); len(l) != 0 || ok {
		t.Errorf("List(%v) = %v, %v; want none, false", b, l, ok)
	}
}

// P2.1: the number that begins at at, and the place behind it.
func TestGetTellsTheNumber(t *testing.T) {
	for _, k := range known() {
		mustGet(t, k.b, 0, k.n, len(k.b))
		mustGet(t, append([]byte{9, 128, 255}, k.b...), 3, k.n, 3+len(k.b))
	}
}

// P2.1: the highest digits may be 0, up to five digits in all.
func TestGetOfHighestDigitsThatAreZero(t *testing.T) {
	for _, c := range []struct {
		b    []byte
		want int
	}{
		{[]byte{128, 0}, 0},
		{[]byte{128, 128, 0}, 0},
		{[]byte{128, 128, 128, 0}, 0},
		{[]byte{128, 128, 128, 128, 0}, 0},
		{[]byte{129, 0}, 1},
		{[]byte{255, 128, 0}, 127},
		{[]byte{172, 130, 0}, 300},
		{[]byte{172, 130, 128, 128, 0}, 300},
		{[]byte{255, 255, 255, 255, 0}, 268435455},
		{[]byte{128, 128, 128, 128, 7}, 1879048192},
	} {
		mustGet(t, c.b, 0, c.want, len(c.b))
	}
}

// P2.1: 0, 0, false where no number begins.
func TestGetWhereNoNumberBegins(t *testing.T) {
	for _, b := range none() {
		mustGetNone(t, b, 0)
		mustGetNone(t, append([]byte{1, 2}, b...), 2)
	}
}

// P2.1: a digit more than five, or one too high, isn't mended by what stands behind it.
func TestGetOfWrongDigitsWithMoreBehind(t *testing.T) {
	for _, b := range none() {
		if len(b) < 5 {
			continue
		}
		for _, more := range behind() {
			mustGetNone(t, slices.Concat(b, more), 0)
		}
	}
}

// P2.1: at may be any number; only where b has a byte can a number begin.
func TestGetAtPlaces(t *testing.T) {
	b := []byte{1, 172, 2, 5}
	mustGet(t, b, 0, 1, 1)
	mustGet(t, b, 1, 300, 3)
	mustGet(t, b, 2, 2, 3)
	mustGet(t, b, 3, 5, 4)
	for _, at := range []int{
		math.MinInt, math.MinInt + 1, math.MinInt + 4, -1 << 32, -5, -4, -2, -1,
		4, 5, 9, 1 << 32, 1<<32 + 1, math.MaxInt - 5, math.MaxInt - 4, math.MaxInt - 1, math.MaxInt,
	} {
		mustGetNone(t, b, at)
		mustGetNone(t, nil, at)
		mustGetNone(t, []byte{}, at)
	}
	mustGetNone(t, nil, 0)
}

// P2.1: only the bytes that b has are looked at, not those that its array has behind them.
func TestNoSpareRoomIsLookedAt(t *testing.T) {
	array := []byte{1, 172, 2, 5}
	mustGetNone(t, array[:2], 1)
	mustGetNone(t, array[:1], 1)
	mustListNone(t, array[:2])
	if l, ok := uleb.List(array[:1]); !slices.Equal(l, []int{1}) || !ok {
		t.Errorf("List = %v, %v", l, ok)
	}
}

// plainGet tells what P2.1 says, by where the first byte without 128 is.
func plainGet(b []byte, at int) (int, int, bool) {
	last := slices.IndexFunc(b[at:], func(d byte) bool { return d < 128 })
	if last < 0 || last > 4 {
		return 0, 0, false
	}
	n := 0
	for i := at + last; i >= at; i-- {
		n = n*128 + int(b[i])&127
	}
	if n > api.MaxAddr {
		return 0, 0, false
	}
	return n, at + last + 1, true
}

// P2.1: Get and List of all short strings of some bytes.
func TestAllShortStrings(t *testing.T) {
	some := []byte{0, 1, 7, 8, 127, 128, 129, 255}
	strings := [][]byte{nil}
	for range 6 {
		var longer [][]byte
		for _, b := range strings {
			checkString(t, b)
			for _, d := range some {
				longer = append(longer, append(bytes.Clone(b), d))
			}
		}
		strings = longer
	}
	for _, b := range strings {
		checkString(t, b)
	}
}

func checkString(t *testing.T, b []byte) {
	for at := range b {
		n, next, ok := uleb.Get(b, at)
		if wantN, wantNext, want := plainGet(b, at); n != wantN || next != wantNext || ok != want {
			t.Fatalf("Get(%v, %d) = %d, %d, %v; want %d, %d, %v", b, at, n, next, ok, wantN, wantNext, want)
		}
	}
	var want []int
	for at := 0; at < len(b); {
		n, next, ok := plainGet(b, at)
		if !ok {
			mustListNone(t, b)
			return
		}
		want, at = append(want, n), next
	}
	if l, ok := uleb.List(b); !slices.Equal(l, want) || !ok {
		t.Fatalf("List(%v) = %v, %v; want %v, true", b, l, ok, want)
	}
}

// P2.1: n's bytes, as few as can be.
func TestPutTellsTheBytes(t *testing.T) {
	for _, k := range known() {
		if b := uleb.Put(k.n); !bytes.Equal(b, k.b) {
			t.Errorf("Put(%d) = %v; want %v", k.n, b, k.b)
		}
	}
}

// P2.1: no more bytes than the number needs.
func TestPutTellsAsFewAsCanBe(t *testing.T) {
	for _, n := range numbers() {
		want := 1
		for high := n / 128; high > 0; high /= 128 {
			want++
		}
		if b := uleb.Put(n); len(b) != want {
			t.Errorf("Put(%d) = %v; want %d bytes", n, b, want)
		}
	}
}

// P2.1: none of a number below 0 or above MaxAddr.
func TestPutOfWrongNumbers(t *testing.T) {
	for _, n := range wrongNumbers() {
		if b := uleb.Put(n); len(b) != 0 {
			t.Errorf("Put(%d) = %v", n, b)
		}
	}
}

// P2.1: all numbers, one behind the other.
func TestListTellsAllNumbers(t *testing.T) {
	for _, c := range []struct {
		b    []byte
		want []int
	}{
		{nil, nil},
		{[]byte{}, nil},
		{[]byte{0}, []int{0}},
		{[]byte{172, 2}, []int{300}},
		{[]byte{0, 0, 0}, []int{0, 0, 0}},
		{[]byte{3, 172, 2, 127, 128, 1, 3}, []int{3, 300, 127, 128, 3}},
		{[]byte{128, 0, 5, 128, 128, 128, 128, 0, 6}, []int{0, 5, 0, 6}},
		{[]byte{255, 255, 255, 255, 7, 255, 255, 255, 255, 7}, []int{api.MaxAddr, api.MaxAddr}},
	} {
		if l, ok := uleb.List(c.b); !slices.Equal(l, c.want) || !ok {
			t.Errorf("List(%v) = %v, %v; want %v, true", c.b, l, ok, c.want)
		}
	}
}

// P2.1: a long list, no number of it left out.
func TestListOfManyNumbers(t *testing.T) {
	var b []byte
	var want []int
	for range 100 {
		for _, k := range known() {
			b, want = append(b, k.b...), append(want, k.n)
		}
	}
	if l, ok := uleb.List(b); !slices.Equal(l, want) || !ok {
		t.Errorf("List tells %d numbers, %v; want %d", len(l), ok, len(want))
	}
}

// P2.1: none, false, if b isn't numbers to its end, also where some stand ahead of the fault.
func TestListOfWhatIsNoNumbers(t *testing.T) {
	for _, b := range none() {
		if len(b) == 0 {
			continue
		}
		mustListNone(t, b)
		for _, k := range known() {
			mustListNone(t, slices.Concat(k.b, b))
			mustListNone(t, slices.Concat(k.b, k.b, b))
		}
	}
	mustListNone(t, []byte{1, 128, 128, 128, 128, 8, 1})
	mustListNone(t, []byte{1, 128, 128, 128, 128, 128, 0, 1})
}

// fill writes over all that a list has, and over the spare room behind it.
func fill[T byte | int](l []T) {
	l = l[:cap(l)]
	for i := range l {
		l[i] = 99
	}
}

// R2: nothing that is handed in is changed, nor what stands behind it in its array.
func TestNothingHandedInIsChanged(t *testing.T) {
	for _, b := range append(none(), []byte{3, 172, 2, 127}, []byte{128, 128, 128, 128, 0, 1}) {
		array := append(bytes.Clone(b), 11, 22, 33, 44, 55, 66)
		want := bytes.Clone(array)
		for _, at := range []int{math.MinInt, -1, 0, 1, 2, 5, 6, math.MaxInt} {
			uleb.Get(array[:len(b)], at)
		}
		uleb.List(array[:len(b)])
		if !bytes.Equal(array, want) {
			t.Errorf("%v is changed: %v", want, array)
		}
	}
}

// P2.2: no two lists that Put tells are one.
func TestPutTellsNewMemory(t *testing.T) {
	for _, n := range numbers() {
		first, second := uleb.Put(n), uleb.Put(n)
		want := bytes.Clone(second)
		fill(first)
		if !bytes.Equal(second, want) || !bytes.Equal(uleb.Put(n), want) {
			t.Errorf("Put(%d) hands out one list twice", n)
		}
	}
}

// P2.2: what List tells shares nothing with b, nor with what it tells again.
func TestListTellsNewMemory(t *testing.T) {
	b := []byte{3, 172, 2, 127}
	want := []int{3, 300, 127}
	first, _ := uleb.List(b)
	second, _ := uleb.List(b)
	fill(first)
	if !bytes.Equal(b, []byte{3, 172, 2, 127}) {
		t.Errorf("what was told, changed, changes b: %v", b)
	}
	if !slices.Equal(second, want) {
		t.Errorf("List hands out one list twice: %v", second)
	}
	third, _ := uleb.List(b)
	fill(b)
	if !slices.Equal(third, want) {
		t.Errorf("b, changed, changes what was told: %v", third)
	}
}

// P2.3: what was put is got, whatever stands behind it, or ahead of it.
func TestWhatWasPutIsGot(t *testing.T) {
	for _, n := range numbers() {
		b := uleb.Put(n)
		for _, more := range behind() {
			mustGet(t, slices.Concat(b, more), 0, n, len(b))
			mustGet(t, slices.Concat(more, b, more), len(more), n, len(more)+len(b))
		}
	}
}

// P2.3: what was put, one behind the other, is listed.
func TestWhatWasPutIsListed(t *testing.T) {
	var b []byte
	for _, n := range numbers() {
		b = append(b, uleb.Put(n)...)
	}
	if l, ok := uleb.List(b); !slices.Equal(l, numbers()) || !ok {
		t.Errorf("List = %v, %v; want %v", l, ok, numbers())
	}
}
