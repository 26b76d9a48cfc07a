package exec_test

import (
	"errors"
	"reflect"
	"testing"

	"fishplate/api"
	"fishplate/exec"
)

// top is the greatest that numbers may be here.
const top = 2147483648

// told is a segment's numbers as they stand in an image.
type told struct{ first, flags, place, addr, again, inFile, inAll, align uint64 }

// seg tells an ordinary segment's numbers.
func seg(flags, place, addr, inFile, inAll uint64) told {
	return told{1, flags, place, addr, addr, inFile, inAll, 1}
}

// put lays a number at a place.
func put(b []byte, at, width int, v uint64) {
	for i := range width {
		b[at+i] = byte(v >> (8 * i))
	}
}

// get tells the number at a place.
func get(b []byte, at, width int) uint64 {
	var v uint64
	for i := range width {
		v |= uint64(b[at+i]) << (8 * i)
	}
	return v
}

// first64 tells the first bytes.
func first64(entry uint64, many int) []byte {
	b := []byte{
		127, 69, 76, 70, 2, 1, 1, 0, 0, 0, 0, 0, 0, 0, 0, 0,
		2, 0, 62, 0, 1, 0, 0, 0, 0, 0, 0, 0, 0, 0, 0, 0,
		64, 0, 0, 0, 0, 0, 0, 0, 0, 0, 0, 0, 0, 0, 0, 0,
		0, 0, 0, 0, 64, 0, 56, 0, 0, 0, 0, 0, 0, 0, 0, 0,
	}
	put(b, 24, 8, entry)
	put(b, 56, 2, uint64(many))
	return b
}

// made tells an image of segments, up to so many bytes in all, that count on behind the segments' numbers.
func made(size int, segs ...told) []byte {
	b := first64(4096, len(segs))
	for _, s := range segs {
		h := make([]byte, 56)
		put(h, 0, 4, s.first)
		put(h, 4, 4, s.flags)
		for i, v := range []uint64{s.place, s.addr, s.again, s.inFile, s.inAll, s.align} {
			put(h, 8+8*i, 8, v)
		}
		b = append(b, h...)
	}
	for len(b) < size {
		b = append(b, byte(len(b)))
	}
	return b
}

// readTold tells a segment's numbers.
func readTold(h []byte) told {
	return told{get(h, 0, 4), get(h, 4, 4), get(h, 8, 8), get(h, 16, 8), get(h, 24, 8), get(h, 32, 8), get(h, 40, 8), get(h, 48, 8)}
}

// isPower tells whether a number is a power of 2 up to top.
func isPower(n uint64) bool {
	for p := uint64(1); p <= top; p *= 2 {
		if n == p {
			return true
		}
	}
	return false
}

// may tells by the chapter's words whether a segment of an image of so many bytes may be.
func (s told) may(size int) bool {
	for _, v := range []uint64{s.place, s.addr, s.again, s.inFile, s.inAll, s.align} {
		if v > top {
			return false
		}
	}
	isKind := s.first == 1 && (s.flags == 4 || s.flags == 5 || s.flags == 6)
	fits := s.inFile <= s.inAll && s.place+s.inFile <= uint64(size) && s.addr+s.inAll <= top
	return isKind && s.addr == s.again && fits && isPower(s.align) && s.place%s.align == s.addr%s.align
}

// plain tells the image by the chapter's words, and whether it may be.
func plain(b []byte) (exec.Image, bool) {
	if len(b) < 64 {
		return exec.Image{}, false
	}
	entry, many := get(b, 24, 8), int(get(b, 56, 2))
	if string(b[:64]) != string(first64(entry, many)) || entry > top || many > 16 || len(b) < 64+56*many {
		return exec.Image{}, false
	}
	image := exec.Image{Entry: int(entry)}
	end := uint64(0)
	for i := range many {
		s := readTold(b[64+56*i:])
		if !s.may(len(b)) || s.addr < end {
			return exec.Image{}, false
		}
		end = s.addr + s.inAll
		image.Segs = append(image.Segs, exec.Seg{Addr: int(s.addr), Size: int(s.inAll), Flags: int(s.flags), Data: b[s.place : s.place+s.inFile]})
	}
	return image, true
}

// isOpen tells whether the chapter leaves open what an image is: whether no bytes lie within it, at a place behind its end.
func isOpen(b []byte) bool {
	if len(b) < 64 {
		return false
	}
	for i := range int(get(b, 56, 2)) {
		if len(b) < 64+56*i+56 {
			return false
		}
		if s := readTold(b[64+56*i:]); s.inFile == 0 && s.place > uint64(len(b)) {
			return true
		}
	}
	return false
}

// isForm tells whether an error is ErrForm itself.
func isForm(err error) bool {
	if err != api.ErrForm || !errors.Is(err, api.ErrForm) {
		return false
	}
	for other := api.ErrArg; other <= api.ErrLarge; other++ {
		if other != api.ErrForm && errors.Is(err, other) {
			return false
		}
	}
	return true
}

// even tells an image with nil for each list of no elements.
func even(x exec.Image) exec.Image {
	var l []exec.Seg
	for _, s := range x.Segs {
		if len(s.Data) == 0 {
			s.Data = nil
		}
		l = append(l, s)
	}
	x.Segs = l
	return x
}

// same tells whether two images are one, be lists of no elements nil or not.
func same(a, b exec.Image) bool { return reflect.DeepEqual(even(a), even(b)) }

// mustLoad holds an image, asked twice, against what it should be, and against the plain reading.
func mustLoad(t *testing.T, b []byte, want exec.Image) {
	t.Helper()
	for range 2 {
		if got, err := exec.Load(b); err != nil || !same(got, want) {
			t.Errorf("Load(%v) = %+v, %v; want %+v", brief(b), got, err, want)
		}
	}
	if got, ok := plain(b); !ok || !same(got, want) {
		t.Errorf("the plain reading of %v tells %+v, %v; want %+v", brief(b), got, ok, want)
	}
	mustFollow(t, want)
}

// mustBeNone holds that bytes are no image.
func mustBeNone(t *testing.T, b []byte) {
	t.Helper()
	for range 2 {
		if got, err := exec.Load(b); !isForm(err) || !reflect.DeepEqual(got, exec.Image{}) {
			t.Errorf("Load(%v) = %+v, %v", brief(b), got, err)
		}
	}
	if got, ok := plain(b); ok {
		t.Errorf("the plain reading of %v tells %+v", brief(b), got)
	}
}

// hold holds bytes against the plain reading, and tells whether they are an image.
func hold(t *testing.T, b []byte) bool {
	t.Helper()
	want, ok := plain(b)
	got, err := exec.Load(b)
	if ok {
		if err != nil || !same(got, want) {
			t.Fatalf("Load(%v) = %+v, %v; want %+v", brief(b), got, err, want)
		}
		mustFollow(t, got)
	} else if !isForm(err) || !reflect.DeepEqual(got, exec.Image{}) {
		t.Fatalf("Load(%v) = %+v, %v; want %v", brief(b), got, err, api.ErrForm)
	}
	return ok
}

// mustFollow holds P19.3: no segment is both for writing and for running; each address is in one of them at most.
func mustFollow(t *testing.T, x exec.Image) {
	t.Helper()
	end := 0
	for _, s := range x.Segs {
		if s.Flags&1 != 0 && s.Flags&2 != 0 || s.Addr < end || len(s.Data) > s.Size {
			t.Fatalf("%+v", x)
		}
		end = s.Addr + s.Size
	}
}

// brief tells the first bytes of some, and how many there are.
func brief(b []byte) []any {
	return []any{b[:min(len(b), 400)], len(b)}
}

// counter counts on, by a fixed rule, and tells numbers below another one by where it is.
type counter uint64

func (c *counter) next(below int) int {
	*c = *c*6364136223846793005 + 1442695040888963407
	return int(*c>>33) % below
}
