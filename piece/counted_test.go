package piece_test

import (
	"bytes"
	"slices"
	"testing"

	"fishplate/api"
	"fishplate/obj"
	"fishplate/piece"
)

// written tells a number in so many bytes, each one of some, as a number is written by digits.
func written(n, many int, some string) []byte {
	b := make([]byte, many)
	for i := range b {
		b[i] = some[n%len(some)]
		n /= len(some)
	}
	return b
}

// ways tells the sections that some bytes are, in each way in which these may be one.
func ways(b []byte) []api.Sec {
	l := []api.Sec{filled(b), zeros(len(b))}
	for _, s := range []api.Sec{texts(string(b)), entries(4, b), entries(8, b), entries(16, b)} {
		if obj.May(object(s)) {
			l = append(l, s)
		}
	}
	return l
}

// small tells all sections of up to seven bytes out of three.
func small() []api.Sec {
	var l []api.Sec
	for many, numbers := 0, 1; many <= 7; many, numbers = many+1, numbers*3 {
		for n := range numbers {
			l = append(l, ways(written(n, many, "\x00\x01\xff"))...)
		}
	}
	return l
}

// longer tells sections of up to 160 bytes, by a fixed way of counting.
func longer() []api.Sec {
	var l []api.Sec
	for many := range 161 {
		for step := 1; step <= 40; step++ {
			b := make([]byte, many)
			for i := range b {
				b[i] = byte(i * step * (many + 1) % (step + 7))
			}
			l = append(l, ways(b)...)
			if many > 0 && b[many-1] != 0 {
				b := slices.Clone(b)
				b[many-1] = 0
				l = append(l, ways(b)...)
			}
		}
	}
	return l
}

// counted tells all these sections.
func counted() []api.Sec { return append(small(), longer()...) }

// P11.1: many sections, and each place of them, from ahead of the first to behind the last.
func TestCountedSections(t *testing.T) {
	t.Parallel()
	type kind struct{ typ, merge, ent int }
	told := map[kind]int{}
	for _, s := range counted() {
		hold(t, s)
		told[kind{s.Type, s.Flags & (api.Merge | api.Strings), s.Ent}]++
	}
	for _, k := range []kind{
		{api.ProgBits, 0, 0}, {api.NoBits, 0, 0}, {api.ProgBits, api.Merge | api.Strings, 1},
		{api.ProgBits, api.Merge, 4}, {api.ProgBits, api.Merge, 8}, {api.ProgBits, api.Merge, 16},
	} {
		if told[k] < 100 {
			t.Errorf("of %+v there are %d sections alone", k, told[k])
		}
	}
}

// holdAll holds that pieces stand one behind the other, and have all bytes of their section.
func holdAll(t *testing.T, s api.Sec, l []piece.Piece) {
	t.Helper()
	end := 0
	var b []byte
	for _, p := range l {
		if p.At != end || p.Size < 1 && (s.Flags&api.Merge != 0 || s.Size > 0) {
			t.Fatalf("%+v of %v isn't behind the one ahead of it, in %+v", p, l, s)
		}
		end += p.Size
		if s.Type == api.ProgBits {
			b = append(b, s.Data[p.At:p.At+p.Size]...)
		}
	}
	if end != s.Size || !bytes.Equal(b, s.Data) {
		t.Fatalf("%v aren't all of %+v", l, s)
	}
}

// holdEach holds that each place is in one piece alone, which Find tells.
func holdEach(t *testing.T, s api.Sec, l []piece.Piece) {
	t.Helper()
	in := make([]int, s.Size)
	for i, p := range l {
		for at := p.At; at < p.At+p.Size; at++ {
			in[at]++
			mustFind(t, l, at, i)
		}
	}
	for at, many := range in {
		if many != 1 {
			t.Fatalf("%d is in %d of %v, in %+v", at, many, l, s)
		}
	}
}

// P11.3: pieces are all of their section, of many sections.
func TestPiecesAreAllOfIt(t *testing.T) {
	t.Parallel()
	for _, s := range counted() {
		l := piece.Split(s)
		holdAll(t, s, l)
		holdEach(t, s, l)
	}
}

// P11.3: also of the largest ones.
func TestPiecesAreAllOfLargeOnes(t *testing.T) {
	t.Parallel()
	most := counting(16384)
	most[16383] = 0
	for _, s := range []api.Sec{filled(most), zeros(16384), texts(string(most)), entries(4, most), entries(8, most), entries(16, most), texts(string(make([]byte, 16384)))} {
		l := piece.Split(s)
		holdAll(t, s, l)
		holdEach(t, s, l)
	}
	for _, size := range []int{1 << 20, api.MaxAddr} {
		holdAll(t, zeros(size), piece.Split(zeros(size)))
	}
}
