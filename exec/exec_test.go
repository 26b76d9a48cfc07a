package exec_test

import (
	"bytes"
	"math"
	"slices"
	"testing"

	"fishplate/api"
	"fishplate/exec"
)

// loaded tells an image, its entry 4096.
func loaded(segs ...exec.Seg) exec.Image { return exec.Image{Entry: 4096, Segs: segs} }

// The document's example: 64 bytes, without segments.
func TestExample(t *testing.T) {
	mustLoad(t, made(64), loaded())
}

// P19.1: fewer bytes than 64 are none, more are some.
func TestHowManyBytes(t *testing.T) {
	whole := made(64)
	mustBeNone(t, nil)
	for size := range 64 {
		mustBeNone(t, whole[:size])
	}
	mustLoad(t, made(65), loaded())
	mustLoad(t, made(5000), loaded())
}

// P19.1: each of the first 64 bytes, but for the entry's and those of how many segments there are, is as told.
func TestFirstBytes(t *testing.T) {
	for _, whole := range [][]byte{made(64), made(200, seg(5, 0, 4096, 9, 9))} {
		for i := range 64 {
			if i >= 24 && i < 32 || i == 56 || i == 57 {
				continue
			}
			for c := range 256 {
				b := slices.Clone(whole)
				if b[i] != byte(c) {
					b[i] = byte(c)
					mustBeNone(t, b)
				}
			}
		}
	}
}

// P19.1: two bytes of the first ones that are turned don't make up for each other.
func TestTwoFirstBytes(t *testing.T) {
	for i := range 64 {
		for k := range i {
			if i >= 24 && i < 32 || k >= 24 && k < 32 || i == 56 || k == 56 || i == 57 || k == 57 {
				continue
			}
			b := made(64)
			b[i], b[k] = b[i]^1, b[k]^1
			mustBeNone(t, b)
		}
	}
}

// P19.1: the entry is 0 to MaxAddr + 1.
func TestEntry(t *testing.T) {
	for _, entry := range []uint64{0, 1, 255, 256, 4194304, top - 1, top} {
		mustLoad(t, first64(entry, 0), exec.Image{Entry: int(entry)})
	}
	for _, entry := range []uint64{top + 1, top + 2, 1 << 32, 1<<32 + 4096, 1<<56 + 5, 1 << 56, 1<<63 - 1, 1 << 63, 1<<63 + 7, math.MaxUint64, math.MaxUint64 - 4096, math.MaxUint64 - top} {
		mustBeNone(t, first64(entry, 0))
	}
	// It needn't be in a segment.
	mustLoad(t, made(200, seg(6, 0, 9, 0, 5)), loaded(exec.Seg{Addr: 9, Size: 5, Flags: 6}))
}

// many tells so many segments of one byte each, one behind the other.
func many(n int) []told {
	var l []told
	for i := range n {
		l = append(l, seg(4+uint64(i%3), uint64(i), 5000+uint64(i), 1, 1))
	}
	return l
}

// P19.1: 0 to 16 segments, all of whose bytes are there.
func TestHowManySegments(t *testing.T) {
	for n := range 17 {
		b := made(64+56*n, many(n)...)
		var l []exec.Seg
		for i := range n {
			l = append(l, exec.Seg{Addr: 5000 + i, Size: 1, Flags: 4 + i%3, Data: b[i : i+1]})
		}
		mustLoad(t, b, loaded(l...))
		mustLoad(t, append(b, 7, 7, 7), loaded(l...))
		if n > 0 {
			mustBeNone(t, b[:len(b)-1])
			mustBeNone(t, b[:len(b)-56])
			mustBeNone(t, b[:64])
		}
	}
	for _, n := range []int{17, 18, 32, 255, 256, 257, 272, 4096} {
		mustBeNone(t, made(64+56*n, many(n)...))
		mustBeNone(t, made(64+56*n+1000, many(n)...))
	}
	for _, n := range []int{17, 256, 272, 4096, 65535} {
		b := append(first64(4096, n), made(70000, many(16)...)[64:]...)
		mustBeNone(t, b)
		mustBeNone(t, b[:64])
	}
	b := append(first64(4096, 65535), make([]byte, 56*65535)...)
	mustBeNone(t, b)
}

// ordinary tells a segment of 30 bytes in the file, of an image of 200, and 40 in all.
func ordinary() told { return told{1, 5, 130, 4226, 4226, 30, 40, 4096} }

// check holds an image of one segment, of 200 bytes, and tells whether it may be.
func check(t *testing.T, s told, may bool) {
	t.Helper()
	b := made(200, s)
	if !may {
		mustBeNone(t, b)
		return
	}
	mustLoad(t, b, loaded(exec.Seg{Addr: int(s.addr), Size: int(s.inAll), Flags: int(s.flags), Data: b[s.place : s.place+s.inFile]}))
}

// P19.1: an ordinary segment; its Data is as many bytes as are in the file.
func TestOrdinarySegment(t *testing.T) {
	check(t, ordinary(), true)
	got, _ := exec.Load(made(200, ordinary()))
	if len(got.Segs) != 1 || len(got.Segs[0].Data) != 30 || got.Segs[0].Size != 40 || got.Segs[0].Data[0] != 130 || got.Segs[0].Data[29] != 159 {
		t.Errorf("%+v", got)
	}
}

// P19.1: the first number is 1.
func TestFirstNumber(t *testing.T) {
	for _, first := range []uint64{0, 2, 3, 6, 257, 65537, 1<<24 + 1, 1<<32 - 1} {
		s := ordinary()
		s.first = first
		check(t, s, false)
	}
}

// P19.1: flags are 4, 5 or 6.
func TestFlags(t *testing.T) {
	for flags := range uint64(300) {
		s := ordinary()
		s.flags = flags
		check(t, s, flags >= 4 && flags <= 6)
	}
	for _, more := range []uint64{1 << 16, 1 << 24, 1 << 31} {
		for flags := range uint64(8) {
			s := ordinary()
			s.flags = more | flags
			check(t, s, false)
		}
	}
}

// P19.1: the second address is the first.
func TestSecondAddress(t *testing.T) {
	for _, again := range []uint64{0, 130, 4225, 4227, 4226 + 4096, 4226 + 1<<32, 4226 + 1<<56, top, math.MaxUint64} {
		s := ordinary()
		s.again = again
		check(t, s, false)
		s = ordinary()
		s.addr = again
		check(t, s, false)
	}
}

// P19.1: all eight-byte numbers are 0 to MaxAddr + 1: none turns over.
func TestGreatNumbers(t *testing.T) {
	for _, great := range []uint64{top + 1, top + 4096, 1 << 32, 1<<32 + 30, 1<<32 + 130, 1<<32 + 4226, 1 << 62, 1<<63 - 1, 1 << 63, 1<<63 + 30, 1<<63 + 4226, math.MaxUint64, math.MaxUint64 - 29, math.MaxUint64 - 199, math.MaxUint64 - 4095} {
		for _, align := range []uint64{1, 4096} {
			for _, change := range []func(s *told){
				func(s *told) { s.place = great },
				func(s *told) { s.addr, s.again = great, great },
				func(s *told) { s.again = great },
				func(s *told) { s.addr = great },
				func(s *told) { s.inFile = great },
				func(s *told) { s.inAll = great },
				func(s *told) { s.inFile, s.inAll = great, great },
				func(s *told) { s.align = great },
				func(s *told) { s.place, s.addr, s.again = great, great, great },
				func(s *told) { s.place, s.inFile, s.inAll = great, -great, -great },
				func(s *told) { s.addr, s.again, s.inAll = great, great, -great },
			} {
				s := ordinary()
				s.align = align
				change(&s)
				check(t, s, false)
			}
		}
	}
}

// P19.1: each number just at MaxAddr + 1, where it may be.
func TestNumbersAtTheTop(t *testing.T) {
	check(t, told{1, 6, 130, top, top, 0, 0, 1}, true)
	check(t, told{1, 6, 130, top, top, 0, 1, 1}, false)
	check(t, told{1, 6, 130, top - 1, top - 1, 1, 1, 1}, true)
	check(t, told{1, 6, 130, 0, 0, 30, top, 1}, true)
	check(t, told{1, 6, 130, 1, 1, 30, top, 1}, false)
	check(t, told{1, 6, 130, 0, 0, top, top, 1}, false)
	check(t, told{1, 6, top, 0, 0, 30, 30, 1}, false)
	check(t, told{1, 6, 130, 130, 130, 30, 30, top}, true)
	check(t, told{1, 6, 0, top, top, 0, 0, top}, true)
}

// P19.1: there are no more bytes in the file than in all.
func TestBytesInFile(t *testing.T) {
	for _, inAll := range []uint64{0, 1, 29, 30, 31, 70} {
		for inFile := range uint64(72) {
			s := ordinary()
			s.inFile, s.inAll = inFile, inAll
			check(t, s, inFile <= inAll && inFile <= 70)
		}
	}
}

// P19.1: bytes in the file lie within the image.
func TestBytesWithinTheImage(t *testing.T) {
	for _, place := range []uint64{0, 1, 63, 64, 120, 170, 199, 200} {
		for _, inFile := range []uint64{1, 2, 29, 30, 31, 199, 200, 201} {
			check(t, told{1, 4, place, 4096, 4096, inFile, inFile, 1}, place+inFile <= 200)
		}
	}
	check(t, told{1, 4, 200, 4096, 4096, 0, 9, 1}, true)
	for _, place := range []uint64{201, 4096, top - 1, top, 1 << 32, 1<<64 - 30, 1<<64 - 1} {
		for _, inFile := range []uint64{1, 30, top - 1, top, -place} {
			check(t, told{1, 4, place, 4096, 4096, inFile, max(inFile, 30), 1}, false)
		}
	}
}

// P19.1: a segment ends, with all its bytes, at MaxAddr + 1 at most.
func TestEnds(t *testing.T) {
	for _, addr := range []uint64{0, 1, 4096, 1 << 30, top - 31, top - 30, top - 1, top} {
		for _, more := range []uint64{0, 1, 2} {
			size := top - addr + more
			check(t, told{1, 6, 130, addr, addr, min(size, 30), size, 1}, more == 0)
		}
		if addr < top {
			size := top - addr - 1
			check(t, told{1, 6, 130, addr, addr, min(size, 30), size, 1}, true)
		}
	}
	check(t, told{1, 6, 130, top, top, 0, top, 1}, false)
}

// P19.1: the last number is a power of 2.
func TestAligns(t *testing.T) {
	for shift := range 64 {
		s := told{1, 5, 0, 0, 0, 30, 40, 1 << shift}
		check(t, s, shift <= 31)
	}
	for align := range uint64(70) {
		s := told{1, 5, 0, 0, 0, 30, 40, align}
		check(t, s, align == 1 || align == 2 || align == 4 || align == 8 || align == 16 || align == 32 || align == 64)
	}
	for _, align := range []uint64{4095, 4097, 6144, top - 1, top - 2, top - 4096, 3 << 30, 1<<63 + 1, math.MaxUint64} {
		check(t, told{1, 5, 0, 0, 0, 30, 40, align}, false)
	}
}

// P19.1: the place in the file and the address leave the same remainder.
func TestRemainders(t *testing.T) {
	for align := uint64(1); align <= top; align *= 2 {
		for _, place := range []uint64{0, 1, 64, 120, 130, 170} {
			for _, more := range []uint64{0, 1, 2, 3, 4, 7, 8, 64, 4096, 1 << 20} {
				check(t, told{1, 5, place, place + more, place + more, 30, 40, align}, more%align == 0)
				check(t, told{1, 5, 170, place, place, 30, 40, align}, (170-place)%align == 0)
			}
		}
	}
	check(t, told{1, 5, 130, top - 4096 + 130, top - 4096 + 130, 30, 40, 4096}, true)
	check(t, told{1, 5, 130, top - 4096 + 131, top - 4096 + 131, 30, 40, 4096}, false)
}

// P19.1: a segment begins no sooner than the one ahead of it ends, with all its bytes.
func TestOrderOfSegments(t *testing.T) {
	first := seg(4, 0, 5000, 10, 20)
	for addr, may := range map[uint64]bool{5020: true, 5021: true, 9000: true, top - 5: true, 5019: false, 5010: false, 5001: false, 5000: false, 4999: false, 4995: false, 100: false, 0: false} {
		b := made(300, first, seg(6, 5, addr, 5, 5))
		if may {
			mustLoad(t, b, loaded(exec.Seg{Addr: 5000, Size: 20, Flags: 4, Data: b[:10]}, exec.Seg{Addr: int(addr), Size: 5, Flags: 6, Data: b[5:10]}))
		} else {
			mustBeNone(t, b)
		}
	}
	// Of three, each follows the one ahead of it.
	l := many(3)
	for _, order := range [][]int{{0, 1, 2}, {0, 2, 1}, {1, 0, 2}, {1, 2, 0}, {2, 0, 1}, {2, 1, 0}, {0, 0, 1}, {0, 1, 1}, {0, 1, 0}} {
		b := made(300, l[order[0]], l[order[1]], l[order[2]])
		if may := slices.Equal(order, []int{0, 1, 2}); hold(t, b) != may {
			t.Errorf("order %v: %v", order, !may)
		}
	}
	// In the file they may stand in any order, and share bytes.
	mustLoad(t, made(300, seg(4, 290, 0, 10, 10), seg(5, 0, 10, 10, 10), seg(6, 5, 20, 290, 290)), loaded(
		exec.Seg{Addr: 0, Size: 10, Flags: 4, Data: made(300)[290:]}, exec.Seg{Addr: 10, Size: 10, Flags: 5, Data: made(64)[:10]},
		exec.Seg{Addr: 20, Size: 290, Flags: 6, Data: made(300, seg(4, 290, 0, 10, 10), seg(5, 0, 10, 10, 10), seg(6, 5, 20, 290, 290))[5:295]},
	))
}

// P19.1: segments of no bytes may stand where others end and begin.
func TestSegmentsWithoutBytes(t *testing.T) {
	none := func(addr uint64) told { return seg(6, 64, addr, 0, 0) }
	empty := func(addr int) exec.Seg { return exec.Seg{Addr: addr, Flags: 6} }
	mustLoad(t, made(300, none(0)), loaded(empty(0)))
	mustLoad(t, made(300, none(7), none(7), none(7)), loaded(empty(7), empty(7), empty(7)))
	mustLoad(t, made(300, none(7), seg(5, 0, 7, 0, 9), none(16), none(top)), loaded(empty(7), exec.Seg{Addr: 7, Size: 9, Flags: 5}, empty(16), empty(top)))
	mustBeNone(t, made(300, none(8), none(7)))
	mustBeNone(t, made(300, seg(5, 0, 7, 0, 9), none(15)))
	mustBeNone(t, made(300, none(top), none(0)))
}

// P19.1: the last of several segments is asked as the first one is.
func TestEachSegmentIsAsked(t *testing.T) {
	for n := 1; n <= 16; n++ {
		for i := range n {
			for _, change := range []func(s *told){
				func(s *told) { s.first = 2 },
				func(s *told) { s.flags = 7 },
				func(s *told) { s.again++ },
				func(s *told) { s.inFile = 2 },
				func(s *told) { s.place = 2000 },
				func(s *told) { s.align = 0 },
				func(s *told) { s.align = 4096; s.place = 1 },
				func(s *told) { s.addr, s.again = 4, 4; s.inAll = 1 << 31 },
			} {
				l := many(n)
				change(&l[i])
				mustBeNone(t, made(1900, l...))
			}
		}
	}
}

// P1: what stands behind the segments may be any.
func TestAnyBytesBehind(t *testing.T) {
	b := made(3000, ordinary())
	for i := 120; i < len(b); i += 7 {
		b[i] ^= 255
	}
	mustLoad(t, b, loaded(exec.Seg{Addr: 4226, Size: 40, Flags: 5, Data: b[130:160]}))
}

// roomy tells bytes in new memory that has room for some more, which are filled.
func roomy(b []byte) []byte {
	long := append(make([]byte, 0, len(b)+99), b...)
	for range 99 {
		long = append(long, 9)
	}
	return long[:len(b)]
}

// R2: nothing that is handed in is changed, also not behind its end; what stands there isn't read.
func TestNothingHandedInIsChanged(t *testing.T) {
	good := made(200, ordinary())
	for _, like := range [][]byte{good, made(200, seg(7, 0, 0, 0, 0)), made(64), first64(9, 1), good[:150], good[:63], nil, made(200, many(2)...)} {
		b := roomy(like)
		exec.Load(b)
		if !bytes.Equal(b[:cap(b)], roomy(like)[:cap(b)]) {
			t.Errorf("Load changed %v to %v", like, b)
		}
	}
	mustBeNone(t, roomy(good[:159]))
	mustBeNone(t, roomy(good[:100]))
	mustBeNone(t, roomy(good[:50]))
}

// fill fills a list, also behind its end.
func fill[T any](l []T, with T) {
	l = l[:cap(l)]
	for i := range l {
		l[i] = with
	}
}

// P19.2: what is told is new memory: changing b changes nothing of it, changing it nothing of b, and no two of its lists share any.
func TestAnswersAreNewMemory(t *testing.T) {
	like := made(300, seg(4, 100, 0, 50, 50), seg(5, 120, 50, 60, 70), seg(6, 120, 200, 60, 60))
	for range 3 {
		b := roomy(like)
		want, _ := plain(slices.Clone(like))
		first, _ := exec.Load(b)
		second, _ := exec.Load(b)
		third, _ := exec.Load(b)
		fill(first.Segs[1].Data, 255)
		if !slices.Equal(first.Segs[0].Data, want.Segs[0].Data) || !slices.Equal(first.Segs[2].Data, want.Segs[2].Data) {
			t.Errorf("segments share memory: %+v", first)
		}
		fill(first.Segs, exec.Seg{Addr: 77})
		if !same(second, want) || !bytes.Equal(b[:cap(b)], roomy(like)[:cap(b)]) {
			t.Errorf("another answer is %+v, of %v", second, b)
		}
		mustLoad(t, b, want)
		fill(b, 0)
		if !same(third, want) {
			t.Errorf("an answer was changed with its bytes to %+v", third)
		}
		mustBeNone(t, b)
		if _, err := exec.Load(like); err != nil {
			t.Error(err)
		}
	}
}

// P1: long bytes.
func TestLongBytes(t *testing.T) {
	b := made(1<<20, seg(5, 0, 0, 1<<20, 1<<20), seg(6, 64, 1<<20, 1<<20-64, api.MaxAddr-1<<20))
	if !hold(t, b) {
		t.Error("it is none")
	}
	mustBeNone(t, b[:1<<20-1])
}
