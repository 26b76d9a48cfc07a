package piece_test

import (
	"math"
	"reflect"
	"slices"
	"testing"
	"time"

	"fishplate/api"
	"fishplate/piece"
)

// roomy tells a list in new memory with room for some more, all filled, so that it is to be seen whether they get written.
func roomy[T any](l []T, more T) []T {
	if l == nil {
		return nil
	}
	long := append(make([]T, 0, len(l)+3), l...)
	return append(long, more, more, more)[:len(l)]
}

// copied tells a section of which nothing is shared with another.
func copied(s api.Sec) api.Sec {
	s.Data = roomy(s.Data, 7)
	s.Rels = roomy(s.Rels, api.Rel{Off: 7})
	return s
}

// sections are sections of each kind.
func sections() []api.Sec {
	related := filled(counting(24))
	related.Rels = []api.Rel{{Off: 0, Type: api.R64}, {Off: 9, Type: api.R32S, Add: -1}}
	return []api.Sec{
		filled(nil), filled([]byte{1, 0, 2, 0}), related, zeros(0), zeros(api.MaxAddr),
		texts(""), texts("\x00"), texts("ab\x00\x00"), texts("hello\x00you\x00\x00world\x00"),
		entries(4, nil), entries(4, counting(4)), entries(4, counting(64)), entries(8, make([]byte, 64)), entries(16, counting(64)),
	}
}

// P11.2, R2: nothing that is handed in is changed, also not behind its end.
func TestNothingHandedInIsChanged(t *testing.T) {
	for _, like := range append(sections(), badSections()...) {
		s, kept := copied(like), copied(like)
		told := piece.Split(s)
		if !reflect.DeepEqual(s, kept) || !slices.Equal(s.Data[:cap(s.Data)], kept.Data[:cap(kept.Data)]) || !slices.Equal(s.Rels[:cap(s.Rels)], kept.Rels[:cap(kept.Rels)]) {
			t.Errorf("Split changed %+v to %+v", kept, s)
		}
		l := roomy(told, piece.Piece{At: 7, Size: 7})
		same := roomy(told, piece.Piece{At: 7, Size: 7})
		for at := -2; at < 70; at++ {
			piece.Find(l, at)
		}
		if !slices.Equal(l[:cap(l)], same[:cap(same)]) {
			t.Errorf("Find changed %v to %v", same[:cap(same)], l[:cap(l)])
		}
	}
}

// P11.2: pieces that are changed, or made longer, by whoever got them change no other answer.
func TestPiecesAreNewMemory(t *testing.T) {
	for _, s := range sections() {
		want := plain(s).pieces()
		first, second := piece.Split(s), piece.Split(s)
		for i := range first[:cap(first)] {
			first[:cap(first)][i] = piece.Piece{At: -9, Size: -9}
		}
		if !slices.Equal(second, want) {
			t.Errorf("of %+v there were told %v, and by changing them %v; want %v", s, first, second, want)
		}
		for _, other := range sections() {
			hold(t, shortened(other))
			if got := piece.Split(other); !slices.Equal(got, plain(other).pieces()) {
				t.Errorf("behind changed pieces Split(%+v) = %v", other, got)
			}
		}
		if !slices.Equal(second, want) {
			t.Errorf("%v were changed by later calls; want %v", second, want)
		}
		mustSplit(t, s, want...)
	}
}

// shortened tells a section as it is, or, of NoBits, one of a Size of which each place can be asked.
func shortened(s api.Sec) api.Sec {
	s.Size = min(s.Size, 100)
	return s
}

// P11.2: bytes that are changed behind the call change no pieces, and what Find tells hangs on its list alone.
func TestNothingIsKept(t *testing.T) {
	s := texts("ab\x00\x00cde\x00")
	l := piece.Split(s)
	want := slices.Clone(l)
	for i := range s.Data {
		s.Data[i] = 0
	}
	if !slices.Equal(l, want) {
		t.Errorf("%v became %v", want, l)
	}
	mustSplit(t, s, even(8, 1)...)
	for at, in := range []int{0, 0, 0, 1, 2, 2, 2, 2, 2, -1} {
		mustFind(t, l, at, in)
	}
	// The same memory holds other pieces.
	l[0], l[1] = piece.Piece{At: 0, Size: 1}, piece.Piece{At: 1, Size: 3}
	for at, in := range []int{0, 1, 1, 1, 2, 2, 2, 2, 2, -1} {
		mustFind(t, l, at, in)
	}
	l = l[:2]
	for at, in := range []int{0, 1, 1, 1, 1, -1, -1} {
		mustFind(t, l, at, in)
	}
}

// badSections are sections most of which may not be.
func badSections() []api.Sec {
	var l []api.Sec
	for _, data := range [][]byte{nil, {}, {0}, {1}, {0, 1}, []byte("ab\x00cd"), counting(17)} {
		for _, size := range []int{math.MinInt, -1, 0, 1, 2, 5, api.MaxAddr, math.MaxInt} {
			for _, ent := range []int{math.MinInt, -4, -1, 0, 1, 3, 4, 16, 17, 18, math.MaxInt - 1, math.MaxInt} {
				for _, flags := range []int{math.MinInt, -1, 0, api.Merge, api.Strings, api.Merge | api.Strings, api.Merge | api.Write | api.Exec, math.MaxInt &^ api.Strings, math.MaxInt &^ api.Merge, math.MaxInt} {
					l = append(l, api.Sec{Type: api.ProgBits, Flags: flags, Ent: ent, Size: size, Data: data})
				}
			}
		}
	}
	for _, s := range slices.Clone(l) {
		s.Type = api.NoBits
		l = append(l, s)
	}
	return append(l, api.Sec{}, api.Sec{Type: -1, Link: -1, Align: -1, Flags: api.Merge}, api.Sec{Type: 4, Flags: api.Merge | api.Strings, Size: -5})
}

// within ends a test whose calls don't end soon.
func within(t *testing.T, calls func()) {
	t.Helper()
	done := make(chan struct{})
	go func() {
		defer close(done)
		calls()
	}()
	select {
	case <-done:
	case <-time.After(2 * time.Minute):
		t.Fatal("the calls don't end")
	}
}

// edges are numbers about which sums and differences wrap round.
var edges = []int{math.MinInt, math.MinInt + 1, -api.MaxAddr, -1, 0, 1, 2, 5, api.MaxAddr, math.MaxInt - 1, math.MaxInt}

// P1: Split ends, and doesn't panic, also of sections that may not be, and Find likewise of what is told of them.
func TestSectionsThatMayNotBe(t *testing.T) {
	t.Parallel()
	within(t, func() {
		for _, s := range badSections() {
			l := piece.Split(s)
			for _, at := range edges {
				piece.Find(l, at)
			}
		}
	})
}

// P1: Find ends, and doesn't panic, also in pieces that are no section's; it tells a number of theirs, or -1.
func TestPiecesThatAreNoSections(t *testing.T) {
	t.Parallel()
	within(t, func() {
		var some []piece.Piece
		for _, at := range edges {
			for _, size := range []int{math.MinInt, -1, 0, 1, math.MaxInt} {
				some = append(some, piece.Piece{At: at, Size: size})
			}
		}
		for _, a := range some {
			for _, b := range some {
				for _, l := range [][]piece.Piece{{a}, {a, b}, {a, {}, b}, {b, a, a}, {a, {At: 0, Size: 2}, {At: 2, Size: 3}, b}} {
					for _, at := range edges {
						if i := piece.Find(l, at); i < -1 || i >= len(l) {
							t.Errorf("Find(%v, %d) = %d", l, at, i)
							return
						}
					}
				}
			}
		}
	})
}

// P1: much more than a section may have is split, too.
func TestMuchMoreThanMayBe(t *testing.T) {
	t.Parallel()
	within(t, func() {
		b := make([]byte, 1<<20)
		for _, s := range []api.Sec{filled(b), texts(string(b)), entries(4, b), entries(1, b)} {
			l := piece.Split(s)
			for at := -2; at < len(b)+3; at += 1000 {
				piece.Find(l, at)
			}
		}
	})
}
