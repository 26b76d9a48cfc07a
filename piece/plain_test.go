package piece_test

import (
	"slices"
	"testing"

	"fishplate/api"
	"fishplate/obj"
	"fishplate/piece"
)

// filled tells a section without Merge, of ProgBits.
func filled(b []byte) api.Sec {
	return api.Sec{Name: ".text", Type: api.ProgBits, Flags: api.Alloc, Align: 1, Size: len(b), Data: b}
}

// zeros tells a section of NoBits.
func zeros(size int) api.Sec {
	return api.Sec{Name: ".bss", Type: api.NoBits, Flags: api.Alloc | api.Write, Align: 1, Size: size}
}

// texts tells a section of Merge with Strings.
func texts(b string) api.Sec {
	return api.Sec{Name: ".str", Type: api.ProgBits, Flags: api.Alloc | api.Merge | api.Strings, Align: 1, Ent: 1, Size: len(b), Data: []byte(b)}
}

// entries tells a section of Merge without Strings.
func entries(ent int, b []byte) api.Sec {
	return api.Sec{Name: ".cst", Type: api.ProgBits, Flags: api.Alloc | api.Merge, Align: ent, Ent: ent, Size: len(b), Data: b}
}

// counting tells so many bytes, each one more than the one ahead of it, the first one 1.
func counting(many int) []byte {
	b := make([]byte, many)
	for i := range b {
		b[i] = byte(i + 1)
	}
	return b
}

// object tells an object with a section, and what such a one asks for: another one for Order, and a group.
func object(s api.Sec) api.Obj {
	o := api.Obj{
		Secs: []api.Sec{s, filled(nil)},
		Syms: []api.Sym{{}, {Name: "g", Bind: api.Global, Sec: -1}},
	}
	if s.Flags&api.Grouped != 0 {
		o.Groups = []api.Group{{Sym: 1, Members: []int{1}}}
	}
	return o
}

// mustBeOne holds that a section may be; of the most bytes an object would be too large, so that half of them are asked.
func mustBeOne(t *testing.T, s api.Sec) {
	t.Helper()
	if len(s.Data) > api.MaxObj/2 && len(s.Data) <= api.MaxObj {
		s.Data = s.Data[len(s.Data)-api.MaxObj/2:]
		s.Size = len(s.Data)
	}
	if !obj.May(object(s)) {
		t.Fatalf("%+v may not be", s)
	}
}

// plain is a section, read by the chapter's words, byte after byte.
type plain api.Sec

// ends tells whether a piece ends behind the byte at a place, of Merge.
func (s plain) ends(at int) bool {
	if s.Flags&api.Strings != 0 {
		return s.Data[at] == 0
	}
	return (at+1)%s.Ent == 0
}

// pieces tells the section's pieces.
func (s plain) pieces() []piece.Piece {
	if s.Flags&api.Merge == 0 {
		return []piece.Piece{{At: 0, Size: s.Size}}
	}
	var l []piece.Piece
	from := 0
	for at := range s.Data {
		if s.ends(at) {
			l = append(l, piece.Piece{At: from, Size: at + 1 - from})
			from = at + 1
		}
	}
	return l
}

// find tells the number of the piece in which a place is.
func (s plain) find(at int) int {
	l := s.pieces()
	for i, p := range l {
		if at >= p.At && at < p.At+p.Size {
			return i
		}
	}
	if len(l) > 0 && at == s.Size {
		return len(l) - 1
	}
	return -1
}

// mustSplit holds what Split tells of a section against what it should, twice.
func mustSplit(t *testing.T, s api.Sec, want ...piece.Piece) {
	t.Helper()
	mustBeOne(t, s)
	for range 2 {
		if got := piece.Split(s); !slices.Equal(got, want) {
			t.Fatalf("Split(%+v) = %v; want %v", s, got, want)
		}
	}
}

// mustFind holds what Find tells against what it should, twice.
func mustFind(t *testing.T, l []piece.Piece, at, want int) {
	t.Helper()
	for range 2 {
		if got := piece.Find(l, at); got != want {
			t.Fatalf("Find(%v, %d) = %d; want %d", l, at, got, want)
		}
	}
}

// hold holds what is told of a section, and of all places from -2 to two behind its end, against the plain answers.
func hold(t *testing.T, s api.Sec) {
	t.Helper()
	mustSplit(t, s, plain(s).pieces()...)
	l := piece.Split(s)
	for at := -2; at <= s.Size+2; at++ {
		mustFind(t, l, at, plain(s).find(at))
	}
}
