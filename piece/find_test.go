package piece_test

import (
	"math"
	"strings"
	"testing"

	"fishplate/api"
	"fishplate/piece"
)

// far are places that are in no section.
var far = []int{math.MinInt, math.MinInt + 1, -1 << 32, math.MinInt32 - 1, math.MinInt32, -api.MaxAddr, -16384, -3, -2, -1, api.MaxAddr + 1, math.MaxUint32, 1 << 32, 1<<32 + 1, 1 << 48, math.MaxInt - 1, math.MaxInt}

// P11.1: in no pieces there is no place, not even at 0.
func TestFindInNoPieces(t *testing.T) {
	for _, l := range [][]piece.Piece{nil, {}, piece.Split(texts("")), piece.Split(entries(4, nil)), piece.Split(entries(16, nil))} {
		for _, at := range append([]int{0, 1, 2, 4, 16, 16384, api.MaxAddr}, far...) {
			mustFind(t, l, at, -1)
		}
	}
}

// P11.1: in the one piece of an empty section 0 is just behind its end, and nothing else is in it.
func TestFindInAnEmptyPiece(t *testing.T) {
	for _, l := range [][]piece.Piece{{{}}, piece.Split(filled(nil)), piece.Split(zeros(0))} {
		mustFind(t, l, 0, 0)
		for _, at := range append([]int{1, 2, 16384, api.MaxAddr}, far...) {
			mustFind(t, l, at, -1)
		}
	}
}

// P11.1: in the one piece of a section, of each size, up to the greatest.
func TestFindInOnePiece(t *testing.T) {
	for _, size := range []int{1, 2, 3, 16, 255, 16383, 16384, 1 << 24, api.MaxAddr - 1, api.MaxAddr} {
		l := piece.Split(zeros(size))
		for _, at := range []int{0, size / 3, size / 2, size - 1, size} {
			mustFind(t, l, at, 0)
		}
		for _, at := range append([]int{size + 1, size + 2, 2*size + 1}, far...) {
			mustFind(t, l, at, -1)
		}
	}
}

// P11.1: at each end of the first piece, of a middle one, and of the last.
func TestFind(t *testing.T) {
	l := piece.Split(texts("hello\x00\x00you\x00world\x00"))
	for at, want := range []int{0, 0, 0, 0, 0, 0, 1, 2, 2, 2, 2, 3, 3, 3, 3, 3, 3, 3, -1, -1} {
		mustFind(t, l, at, want)
	}
	for _, at := range far {
		mustFind(t, l, at, -1)
	}
	mustFind(t, []piece.Piece{{At: 0, Size: 3}, {At: 3, Size: 1}}, 3, 1)
	mustFind(t, []piece.Piece{{At: 0, Size: 3}, {At: 3, Size: 1}}, 4, 1)
	mustFind(t, []piece.Piece{{At: 0, Size: 3}, {At: 3, Size: 1}}, 5, -1)
}

// P11.1: in even pieces, as many as there may be, each at each of its ends.
func TestFindInManyPieces(t *testing.T) {
	for many := 1; many <= 64; many++ {
		mustFindEven(t, piece.Split(texts(strings.Repeat("\x00", many))), 1)
		mustFindEven(t, piece.Split(texts(strings.Repeat("ab\x00", many))), 3)
		mustFindEven(t, piece.Split(entries(4, counting(4*many))), 4)
		mustFindEven(t, piece.Split(entries(16, make([]byte, 16*many))), 16)
	}
	mustFindEven(t, piece.Split(texts(strings.Repeat("\x00", 16384))), 1)
	mustFindEven(t, piece.Split(entries(4, counting(16384))), 4)
	mustFindEven(t, piece.Split(entries(8, counting(16384))), 8)
	mustFindEven(t, piece.Split(entries(16, counting(16384))), 16)
}

// mustFindEven holds what Find tells at each end of pieces of one size, and about all of them.
func mustFindEven(t *testing.T, l []piece.Piece, size int) {
	t.Helper()
	end := len(l) * size
	for i := range l {
		mustFind(t, l, i*size, i)
		mustFind(t, l, i*size+size/2, i)
		mustFind(t, l, (i+1)*size-1, i)
	}
	mustFind(t, l, end, len(l)-1)
	for _, at := range append([]int{end + 1, end + size, end + size + 1, 2*end + 1}, far...) {
		mustFind(t, l, at, -1)
	}
}
