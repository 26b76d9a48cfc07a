package piece_test

import (
	"bytes"
	"slices"
	"strings"
	"testing"

	"fishplate/api"
	"fishplate/piece"
)

// all tells the one piece that is so many bytes.
func all(size int) piece.Piece { return piece.Piece{At: 0, Size: size} }

// even tells pieces of one size, one behind the other.
func even(many, size int) []piece.Piece {
	var l []piece.Piece
	for i := range many {
		l = append(l, piece.Piece{At: i * size, Size: size})
	}
	return l
}

// P11.1: the document's own example, and sections as they are ordinarily.
func TestOrdinary(t *testing.T) {
	mustSplit(t, texts("ab\x00\x00"), piece.Piece{At: 0, Size: 3}, piece.Piece{At: 3, Size: 1})
	mustSplit(t, filled([]byte("0123456789ab")), all(12))
	mustSplit(t, filled([]byte("ab\x00\x00cd\x00")), all(7))
	mustSplit(t, zeros(70000), all(70000))
	mustSplit(t, texts("hello\x00you\x00world\x00"), piece.Piece{At: 0, Size: 6}, piece.Piece{At: 6, Size: 4}, piece.Piece{At: 10, Size: 6})
	for _, ent := range []int{4, 8, 16} {
		mustSplit(t, entries(ent, counting(3*ent)), piece.Piece{At: 0, Size: ent}, piece.Piece{At: ent, Size: ent}, piece.Piece{At: 2 * ent, Size: ent})
	}
}

// P11.1: a section without Merge is one piece, also one of no bytes, and of the most.
func TestWithoutMerge(t *testing.T) {
	for _, many := range []int{0, 1, 2, 3, 4, 7, 8, 16, 255, 256, 4096, 16383, 16384} {
		mustSplit(t, filled(make([]byte, many)), all(many))
		mustSplit(t, filled(counting(many)), all(many))
	}
	mustSplit(t, filled([]byte{}), all(0))
	for _, size := range []int{0, 1, 2, 16384, 16385, 65536, 1 << 24, api.MaxAddr - 1, api.MaxAddr} {
		mustSplit(t, zeros(size), all(size))
	}
}

// marked tells a section with one more flag, and what that one asks for.
func marked(s api.Sec, flag int) api.Sec {
	s.Flags |= flag
	if flag == api.Order {
		s.Link = 2
	}
	return s
}

// P11.1: a flag but Merge and Strings changes nothing, whatever else the section has.
func TestOtherFlagsChangeNothing(t *testing.T) {
	var l []api.Sec
	for _, s := range []api.Sec{filled(nil), filled([]byte("a\x00bc\x00defg")), filled(counting(48))} {
		l = append(l, s, marked(s, api.Exec), marked(s, api.Write))
	}
	l = append(l, zeros(0), zeros(1), zeros(api.MaxAddr), texts(""), texts("\x00"), texts("a\x00\x00bcd\x00"))
	for _, ent := range []int{4, 8, 16} {
		l = append(l, entries(ent, nil), entries(ent, counting(5*ent)))
	}
	for _, s := range l {
		want := plain(s).pieces()
		for many := range 16 {
			s := s
			for i, flag := range []int{api.Alloc, api.Order, api.Grouped, api.Retain} {
				s.Flags &^= flag
				if many>>i&1 == 1 {
					s = marked(s, flag)
				}
			}
			mustSplit(t, s, want...)
		}
	}
}

// P11.1: nothing but Flags, Ent, Size and Data is asked.
func TestAllElseChangesNothing(t *testing.T) {
	for _, s := range []api.Sec{filled(nil), filled(counting(48)), zeros(16), texts("ab\x00c\x00"), entries(4, counting(16)), entries(16, counting(32))} {
		want := plain(s).pieces()
		for _, name := range []string{"", ".text", ".rodata.str1.1", ".bss", strings.Repeat("\xff", 32)} {
			s := s
			s.Name = name
			mustSplit(t, s, want...)
		}
		for align := 1; align <= api.MaxAlign; align *= 2 {
			if s.Flags&api.Merge != 0 && align > s.Ent {
				break
			}
			s := s
			s.Align = align
			mustSplit(t, s, want...)
		}
	}
	s := filled(counting(48))
	s.Rels = []api.Rel{{Off: 0, Type: api.R64, Sym: 1, Add: 3}, {Off: 8, Type: api.RPC32}, {Off: 44, Type: api.R32, Sym: 1}}
	mustSplit(t, s, all(48))
}

// P11.1: each string with its 0 is a piece, also one of its 0 alone.
func TestStrings(t *testing.T) {
	mustSplit(t, texts(""))
	empty := texts("")
	empty.Data = nil
	mustSplit(t, empty)
	mustSplit(t, texts("\x00"), all(1))
	for _, many := range []int{2, 3, 4, 8, 100, 16384} {
		mustSplit(t, texts(strings.Repeat("\x00", many)), even(many, 1)...)
	}
	for _, many := range []int{1, 2, 3, 4, 7, 8, 15, 16, 255, 256, 16383} {
		mustSplit(t, texts(strings.Repeat("a", many)+"\x00"), all(many+1))
	}
	mustSplit(t, texts("a\x00b\x00"), even(2, 2)...)
	mustSplit(t, texts("a\x00bcd\x00"), piece.Piece{At: 0, Size: 2}, piece.Piece{At: 2, Size: 4})
	mustSplit(t, texts("abc\x00d\x00"), piece.Piece{At: 0, Size: 4}, piece.Piece{At: 4, Size: 2})
	mustSplit(t, texts(strings.Repeat("abc\x00", 4096)), even(4096, 4)...)
	// Like strings are a piece each.
	mustSplit(t, texts("ab\x00ab\x00b\x00"), piece.Piece{At: 0, Size: 3}, piece.Piece{At: 3, Size: 3}, piece.Piece{At: 6, Size: 2})
}

// P11.1: an empty string first, in the middle, last, and several in a row.
func TestEmptyStrings(t *testing.T) {
	mustSplit(t, texts("\x00a\x00bc\x00"), piece.Piece{At: 0, Size: 1}, piece.Piece{At: 1, Size: 2}, piece.Piece{At: 3, Size: 3})
	mustSplit(t, texts("a\x00\x00bc\x00"), piece.Piece{At: 0, Size: 2}, piece.Piece{At: 2, Size: 1}, piece.Piece{At: 3, Size: 3})
	mustSplit(t, texts("a\x00bc\x00\x00"), piece.Piece{At: 0, Size: 2}, piece.Piece{At: 2, Size: 3}, piece.Piece{At: 5, Size: 1})
	mustSplit(t, texts("\x00a\x00\x00b\x00\x00"), piece.Piece{At: 0, Size: 1}, piece.Piece{At: 1, Size: 2}, piece.Piece{At: 3, Size: 1}, piece.Piece{At: 4, Size: 2}, piece.Piece{At: 6, Size: 1})
	mustSplit(t, texts("a\x00\x00\x00\x00"), piece.Piece{At: 0, Size: 2}, piece.Piece{At: 2, Size: 1}, piece.Piece{At: 3, Size: 1}, piece.Piece{At: 4, Size: 1})
	mustSplit(t, texts("\x00\x00\x00a\x00"), piece.Piece{At: 0, Size: 1}, piece.Piece{At: 1, Size: 1}, piece.Piece{At: 2, Size: 1}, piece.Piece{At: 3, Size: 2})
}

// P11.1: 0 alone ends a string: each other byte, and several together, are bytes as any other.
func TestEachByteInAString(t *testing.T) {
	for c := 1; c < 256; c++ {
		one := string([]byte{byte(c)})
		mustSplit(t, texts(one+"\x00"), all(2))
		mustSplit(t, texts(one+one+"\x00"+one+"\x00"), piece.Piece{At: 0, Size: 3}, piece.Piece{At: 3, Size: 2})
		mustSplit(t, texts("\x00"+one+"\x00\x00"), piece.Piece{At: 0, Size: 1}, piece.Piece{At: 1, Size: 2}, piece.Piece{At: 3, Size: 1})
		mustSplit(t, texts("a"+one+"\x7f\x80\xff\x01\x00"), all(7))
	}
	mustSplit(t, texts("\x01\x7f\x80\xff\x00\xff\x00\xc2\x80\x00\xed\xa0\x80\x00"), piece.Piece{At: 0, Size: 5}, piece.Piece{At: 5, Size: 2}, piece.Piece{At: 7, Size: 3}, piece.Piece{At: 10, Size: 4})
	mustSplit(t, texts("ä€\U0001f600\x00\n\r\x00"), all(10), piece.Piece{At: 10, Size: 3})
}

// P11.1: strings of each length, alone and behind others.
func TestStringsOfEachLength(t *testing.T) {
	var b []byte
	var want []piece.Piece
	for many := range 170 {
		want = append(want, piece.Piece{At: len(b), Size: many + 1})
		b = append(append(b, bytes.Repeat([]byte{byte(many%255 + 1)}, many)...), 0)
		mustSplit(t, texts(string(b)), want...)
	}
}

// P11.1: of other ones of Merge each Ent bytes are a piece, whatever the Align.
func TestEntries(t *testing.T) {
	for _, ent := range []int{4, 8, 16} {
		mustSplit(t, entries(ent, nil))
		mustSplit(t, entries(ent, []byte{}))
		for _, many := range []int{1, 2, 3, 4, 5, 7, 8, 9, 16, 17, 63, 64, 100} {
			for align := 1; align <= ent; align *= 2 {
				s := entries(ent, counting(many*ent))
				s.Align = align
				mustSplit(t, s, even(many, ent)...)
			}
		}
		mustSplit(t, entries(ent, counting(16384)), even(16384/ent, ent)...)
	}
}

// P11.1: a 0 ends no entry, wherever it stands, nor are entries that are alike one piece.
func TestZerosInEntries(t *testing.T) {
	for _, ent := range []int{4, 8, 16} {
		mustSplit(t, entries(ent, make([]byte, 3*ent)), even(3, ent)...)
		for at := range 3 * ent {
			b := counting(3 * ent)
			b[at] = 0
			mustSplit(t, entries(ent, b), even(3, ent)...)
			if at > 0 {
				b[at-1] = 0
				mustSplit(t, entries(ent, b), even(3, ent)...)
			}
		}
		mustSplit(t, entries(ent, slices.Repeat(counting(ent), 5)), even(5, ent)...)
		mustSplit(t, entries(ent, make([]byte, 16384)), even(16384/ent, ent)...)
	}
}
