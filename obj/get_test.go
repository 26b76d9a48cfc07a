package obj_test

import (
	"bytes"
	"encoding/binary"
	"math"
	"reflect"
	"slices"
	"strings"
	"testing"

	"fishplate/api"
	"fishplate/obj"
)

// Numbers of the rich object's section headers.
const (
	textHead    = 1
	dataHead    = 2
	bssHead     = 3
	stringsHead = 4
	cstHead     = 5
	metaHead    = 6
	commentHead = 7
	relaText    = 8
	relaData    = 9
	groupHead   = 10
	secondGroup = 11
	sigHead     = 12
	symsHead    = 13
	textsHead   = 14
	namesHead   = 15
)

// bit63 is a number that has a sign, as an int.
const bit63 = uint64(1) << 63

// turned tells the rich object's bytes, laid by hand, with a change of section header n (from 1 on).
func turned(n int, change func(e *entry)) []byte {
	l := entries(rich())
	change(&l[n-1])
	return file(l)
}

// wide tells numbers of a section header that may be nowhere.
func wide() []uint64 {
	return []uint64{1 << 31, 1<<31 + 1, 1<<32 - 1, 1 << 32, 1<<32 + 1, 1 << 40, bit63 - 1, bit63, bit63 + 64, math.MaxUint64 - 63, math.MaxUint64}
}

// headerAt tells where section header n of bytes is.
func headerAt(b []byte, n int) int { return number(b, 40, 8) + 64*n }

// P8.1: what is got of the rich object's bytes, laid by hand.
func TestGetOfTheRichObject(t *testing.T) {
	b := file(entries(rich()))
	mustGet(t, b, rich())
	want, ok := readPlainly(b)
	if !ok || !same(want, rich()) {
		t.Fatalf("the plain reading tells %+v", want)
	}
}

// P8.1: where section headers begin, how many there are, and which one is of names.
func TestWhereSectionHeadersAre(t *testing.T) {
	b := file(entries(rich()))
	at := number(b, 40, 8)
	head := func(at uint64, many, names uint16) []byte {
		b := bytes.Clone(b)
		binary.LittleEndian.PutUint64(b[40:], at)
		binary.LittleEndian.PutUint16(b[60:], many)
		binary.LittleEndian.PutUint16(b[62:], names)
		return b
	}
	mustGet(t, head(uint64(at), 16, 15), rich())
	for _, n := range append(wide(), 0, 1, 64, uint64(at-64), uint64(at-1), uint64(at+1), uint64(at+64), uint64(len(b)), 2147483647) {
		mustGetNone(t, head(n, 16, 15))
		mustGetNone(t, head(n, 1, 0))
	}
	for _, n := range []uint16{0, 1, 15, 17, 18, 255, 65535} {
		mustGetNone(t, head(uint64(at), n, 15))
	}
	for names := range 20 {
		if names != 15 {
			mustGetNone(t, head(uint64(at), 16, uint16(names)))
		}
	}
	// One more header fits behind the last one, as soon as its bytes are there.
	more := head(uint64(at), 17, 15)
	mustGetNone(t, append(bytes.Clone(more), make([]byte, 63)...))
	mustGetNone(t, append(bytes.Clone(more), make([]byte, 64)...))
	mustGet(t, append(bytes.Clone(more), b[headerAt(b, 14):headerAt(b, 15)]...), rich())
}

// P8.1: each of the first 64 bytes turned, but for the three numbers.
func TestTheFixedBytes(t *testing.T) {
	b := file(entries(rich()))
	for i := range 60 {
		if i >= 40 && i < 48 {
			continue
		}
		for _, c := range []byte{0, 1, 2, 62, 64, 128, 255, b[i] + 1, b[i] - 1, b[i] ^ 128} {
			if c != b[i] {
				wrong := bytes.Clone(b)
				wrong[i] = c
				mustGetNone(t, wrong)
			}
		}
	}
}

// P8.1: the first section header is zero.
func TestTheFirstSectionHeader(t *testing.T) {
	b := file(entries(rich()))
	for i := range 64 {
		for _, c := range []byte{1, 8, 128, 255} {
			wrong := bytes.Clone(b)
			wrong[headerAt(b, 0)+i] = c
			mustGetNone(t, wrong)
		}
	}
	l := entries(rich())
	mustGetNone(t, slices.Concat(headerBytes(headerAt(b, 1), len(l), len(l)-1), b[64:]))
}

// P8.1: each number of each section header is 0 to the greatest that may be, and Addr is 0.
func TestNumbersThatMayBeNowhere(t *testing.T) {
	b := file(entries(rich()))
	for n := 1; n <= 15; n++ {
		for _, f := range []struct{ at, width int }{{0, 4}, {4, 4}, {8, 8}, {16, 8}, {24, 8}, {32, 8}, {40, 4}, {44, 4}, {48, 8}, {56, 8}} {
			for _, v := range wide() {
				wrong := bytes.Clone(b)
				own := wrong[headerAt(b, n)+f.at:]
				if f.width == 8 {
					binary.LittleEndian.PutUint64(own, v)
					mustGetNone(t, wrong)
				} else if binary.LittleEndian.PutUint32(own, uint32(v)); uint32(v) >= 1<<31 {
					mustGetNone(t, wrong)
				}
			}
		}
		for _, v := range []uint64{1, 64, 4096, 2147483647} {
			mustGetNone(t, turned(n, func(e *entry) { e.addr = v }))
		}
	}
}

// P8.1: each number of each section header at many edges, as the plain reading has it.
func TestEachNumberOfEachSectionHeader(t *testing.T) {
	b := file(entries(rich()))
	size := len(b)
	values := []int{0, 1, 2, 3, 4, 5, 6, 7, 8, 9, 10, 11, 12, 13, 14, 15, 16, 17, 18, 20, 22, 24, 32, 36, 48, 49, 64, 72, 92, 96, 100, 115, 128, 150, 216, 240, 255, 256, 512, 514, 530, 642, 4096, 8192, size - 49, size - 48, size - 24, size - 23, size - 1, size, size + 1, 65535, 70000, 1879002114, 1879002115, 1879002116, 2097152, 2147483646, 2147483647}
	for n := range 16 {
		for _, f := range []struct{ at, width int }{{0, 4}, {4, 4}, {8, 8}, {16, 8}, {24, 8}, {32, 8}, {40, 4}, {44, 4}, {48, 8}, {56, 8}} {
			for _, v := range values {
				wrong := bytes.Clone(b)
				for k := range f.width {
					wrong[headerAt(b, n)+f.at+k] = byte(v >> (8 * k))
				}
				checkBytes(t, wrong)
			}
		}
	}
}

// P8.1: what headers tell lies within the bytes, up to their end.
func TestOffAndSize(t *testing.T) {
	o := changed(func(o *api.Obj) { o.Syms[4].Value, o.Syms[4].Size = 0, 0 })
	size := uint64(len(file(entries(o))))
	for _, c := range []struct {
		may       bool
		off, size uint64
	}{
		{true, size, 0}, {false, size + 1, 0}, {false, size + 64, 0}, {false, 2147483647, 0},
		{true, size - 1, 1}, {false, size, 1}, {false, size - 1, 2}, {true, 1, size - 1}, {false, 1, size}, {false, 2, size - 1},
		{false, 2147483647, 2147483647}, {false, 1, 2147483647}, {false, 2147483647, 1}, {false, 1, bit63}, {false, bit63, 1}, {false, bit63, bit63},
		{false, math.MaxUint64, 1}, {false, math.MaxUint64, 2}, {false, math.MaxUint64 - 1, 3}, {false, 1, math.MaxUint64}, {false, 64, math.MaxUint64 - 63},
	} {
		l := entries(o)
		l[commentHead-1].off, l[commentHead-1].size = c.off, c.size
		b := file(l)
		if !c.may {
			mustGetNone(t, b)
			continue
		}
		want := rich()
		want.Syms[4].Value, want.Syms[4].Size = 0, 0
		want.Secs[6].Size, want.Secs[6].Data = int(c.size), b[c.off:c.off+c.size]
		mustGet(t, b, want)
	}
	// All bytes, the first ones, none at their beginning.
	l := entries(o)
	b := file(l)
	for _, n := range []int{0, 1, 64, len(b)} {
		wrong := bytes.Clone(b)
		binary.LittleEndian.PutUint64(wrong[headerAt(b, commentHead)+24:], 0)
		binary.LittleEndian.PutUint64(wrong[headerAt(b, commentHead)+32:], uint64(n))
		want := changed(func(w *api.Obj) { w.Syms[4], w.Secs[6].Size, w.Secs[6].Data = o.Syms[4], n, wrong[:n] })
		mustGet(t, wrong, want)
	}
}

// P8.1: each header that isn't of NoBits lies within the bytes: its Off or Size turned alone.
func TestOffAndSizeOfEachHeader(t *testing.T) {
	b := file(entries(rich()))
	for n := 1; n <= 15; n++ {
		h := headerAt(b, n)
		off, size := number(b, h+24, 8), number(b, h+32, 8)
		for _, v := range []int{max(len(b)-size, 0) + 1, len(b) + 1, len(b) + 24, 16384, 2147483647 - size, 2147483647} {
			wrong := bytes.Clone(b)
			binary.LittleEndian.PutUint64(wrong[h+24:], uint64(v))
			if n == bssHead {
				mustGet(t, wrong, rich())
			} else {
				mustGetNone(t, wrong)
			}
		}
		for _, v := range []int{len(b) - off + 1, len(b) - off + 24, len(b) + 1, 2147483647 - off, 2147483647} {
			wrong := bytes.Clone(b)
			binary.LittleEndian.PutUint64(wrong[h+32:], uint64(v))
			if n == bssHead {
				if v >= 70000 {
					mustGet(t, wrong, changed(func(o *api.Obj) { o.Secs[2].Size = v }))
				}
			} else {
				mustGetNone(t, wrong)
			}
		}
	}
}

// P8.1: headers whose bytes overlap, and ones that are behind other ones, are as good.
func TestHeadersThatOverlap(t *testing.T) {
	b := file(entries(rich()))
	off := func(n int) uint64 { return uint64(number(b, headerAt(b, n)+24, 8)) }
	// A section tells part of another one, or just its bytes.
	mustGet(t, turned(commentHead, func(e *entry) { e.off, e.size = off(dataHead)+3, 4 }), changed(func(o *api.Obj) {
		o.Secs[6].Size, o.Secs[6].Data = 4, []byte{4, 5, 6, 7}
	}))
	mustGet(t, turned(cstHead, func(e *entry) { e.off, e.size, e.told = off(dataHead), 16, nil }), changed(func(o *api.Obj) {
		o.Secs[4].Data = o.Secs[1].Data
	}))
	same := entries(rich())
	same[secondGroup-1].told = nil
	same[secondGroup-1].off, same[secondGroup-1].size = off(groupHead), 12
	mustGetNone(t, file(same)) // a member of two groups
	for _, gap := range [][]byte{nil, {1}, {255, 255, 255}, make([]byte, 64), bytes.Repeat([]byte{7}, 100)} {
		for _, ahead := range []bool{false, true} {
			mustGet(t, fileWith(entries(rich()), gap, ahead), rich())
		}
	}
}

// P8.1: Off of NoBits may be anywhere, and so may Off and Size together.
func TestNoBitsAnywhere(t *testing.T) {
	b := file(entries(rich()))
	for _, v := range []uint64{1, 63, 64, uint64(len(b) - 1), uint64(len(b)), uint64(len(b) + 1), 16384, 16385, 2147483646, 2147483647} {
		mustGet(t, turned(bssHead, func(e *entry) { e.off = v }), rich())
		if v >= 70000 {
			want := changed(func(o *api.Obj) { o.Secs[2].Size = int(v) })
			mustGet(t, turned(bssHead, func(e *entry) { e.off, e.size = 2147483647, v }), want)
		}
	}
	zero := bytes.Clone(b)
	binary.LittleEndian.PutUint64(zero[headerAt(b, bssHead)+24:], 0)
	mustGet(t, zero, rich())
	for _, v := range wide() {
		mustGetNone(t, turned(bssHead, func(e *entry) { e.off = v }))
		mustGetNone(t, turned(bssHead, func(e *entry) { e.size = v }))
	}
}

// P8.1: the Type of each section header is one of those that are told.
func TestTypesOfHeaders(t *testing.T) {
	known := []uint64{1, 8, 2, 3, 4, 17, sigType}
	for _, kind := range []uint64{0, 5, 6, 7, 9, 10, 11, 12, 14, 15, 16, 18, 19, 255, 256, 257, 65537, 0x6ffffff6, sigType - 1, sigType + 1, 2147483647} {
		for n := 1; n <= 15; n++ {
			b := file(entries(rich()))
			binary.LittleEndian.PutUint32(b[headerAt(b, n)+4:], uint32(kind))
			mustGetNone(t, b)
		}
		// Also of one that nothing names, and that tells nothing.
		l := append(entries(rich()), entry{name: "more", kind: kind})
		mustGetNone(t, file(l))
	}
	for _, kind := range known {
		checkBytes(t, file(append(entries(rich()), entry{name: "more", kind: kind})))
	}
	// Tables of names that nobody names are left out.
	mustGet(t, file(append(entries(rich()), entry{name: "more", kind: 3, told: []byte("abc")})), rich())
	mustGet(t, file(append(entries(rich()), entry{kind: 3, flags: 2147483647, link: 2147483647, info: 2147483647, align: 3, ent: 7, told: []byte{}})), rich())
}

// P8.1: the header of names is of Type 3, and each header's Name stands there.
func TestNamesOfHeaders(t *testing.T) {
	l := entries(rich())
	b := file(l)
	own := headerAt(b, namesHead)
	off, size := number(b, own+24, 8), number(b, own+32, 8)
	name := func(n, at int) []byte {
		b := bytes.Clone(b)
		binary.LittleEndian.PutUint32(b[headerAt(b, n):], uint32(at))
		return b
	}
	for n := 1; n <= 15; n++ {
		for _, at := range []int{size, size + 1, 2 * size, 16384, 2147483647} {
			mustGetNone(t, name(n, at))
		}
		for _, at := range []int{0, 1, 2, size - 1, size - 2} {
			text := string(b[off+at : off+at+bytes.IndexByte(b[off+at:], 0)])
			mustGet(t, name(n, at), changed(func(o *api.Obj) {
				if n <= 7 {
					o.Secs[n-1].Name = text
				}
			}))
		}
	}
	for n := 1; n <= 14; n++ {
		if n != textsHead {
			mustGetNone(t, slices.Concat(headerBytes(number(b, 40, 8), 16, n), b[64:]))
		}
	}
	// Cut off: the last 0 is none of its bytes.
	cut := bytes.Clone(b)
	binary.LittleEndian.PutUint64(cut[own+32:], uint64(size-1))
	mustGetNone(t, cut)
	for n := range size {
		cut := bytes.Clone(b)
		binary.LittleEndian.PutUint64(cut[own+32:], uint64(n))
		mustGetNone(t, cut)
	}
}

// P8.1: a header's name of 33 bytes is none, of a section or of another one; of 32 bytes it is.
func TestLongNamesOfHeaders(t *testing.T) {
	for n := 1; n <= 15; n++ {
		for _, size := range []int{31, 32, 33, 34, 100} {
			l := entries(rich())
			l[n-1].name = strings.Repeat("n", size)
			if size > 32 {
				mustGetNone(t, file(l))
				continue
			}
			mustGet(t, file(l), changed(func(o *api.Obj) {
				if n <= 7 {
					o.Secs[n-1].Name = l[n-1].name
				}
			}))
		}
	}
}

// P8.1: a section's Info is 0, its Link 0, of Order another section's header.
func TestInfoAndLinkOfSections(t *testing.T) {
	for n := 1; n <= 7; n++ {
		for _, v := range []uint64{1, 2, 7, 13, 15, 65536, 2147483647} {
			mustGetNone(t, turned(n, func(e *entry) { e.info = v }))
			if n != metaHead {
				mustGetNone(t, turned(n, func(e *entry) { e.link = v }))
			}
		}
	}
	for link := range uint64(20) {
		b := turned(metaHead, func(e *entry) { e.link = link })
		if link >= 1 && link <= 7 && link != metaHead {
			mustGet(t, b, changed(func(o *api.Obj) { o.Secs[5].Link = int(link) }))
		} else {
			mustGetNone(t, b)
		}
	}
	for _, link := range []uint64{255, 256, 257, 65537, 2147483647} {
		mustGetNone(t, turned(metaHead, func(e *entry) { e.link = link }))
	}
	mustGetNone(t, turned(metaHead, func(e *entry) { e.flags -= api.Order }))
}

// P8.1: Align 0 of a section stands for 1, and nothing else does.
func TestAlignOfSections(t *testing.T) {
	for n := 1; n <= 7; n++ {
		for _, v := range []uint64{0, 1, 2, 3, 4, 8, 4095, 4096, 8192, 2147483647} {
			b := turned(n, func(e *entry) { e.align = v })
			want := changed(func(o *api.Obj) { o.Secs[n-1].Align = int(max(v, 1)) })
			if obj.May(want) {
				mustGet(t, b, want)
			} else {
				mustGetNone(t, b)
			}
		}
		mustGet(t, turned(n, func(e *entry) { e.align = 0 }), changed(func(o *api.Obj) { o.Secs[n-1].Align = 1 }))
	}
}

// P8.1: Flags, Align and Ent of headers that are no sections aren't asked, but for the Ent that is told.
func TestWhatIsNotAsked(t *testing.T) {
	for n := relaText; n <= namesHead; n++ {
		for _, v := range []uint64{0, 1, 3, 4, 64, 128, 512, 576, 1 << 20, 2147483647} {
			mustGet(t, turned(n, func(e *entry) { e.flags = v }), rich())
			mustGet(t, turned(n, func(e *entry) { e.align = v }), rich())
			b := turned(n, func(e *entry) { e.ent = v })
			if n == sigHead || n == textsHead || n == namesHead || n == groupHead && v == 4 || n == secondGroup && v == 4 {
				mustGet(t, b, rich())
			} else {
				mustGetNone(t, b)
			}
		}
	}
	for _, n := range []int{textsHead, namesHead} {
		mustGet(t, turned(n, func(e *entry) { e.link, e.info = 2147483647, 2147483647 }), rich())
	}
	mustGet(t, turned(sigHead, func(e *entry) { e.info = 99 }), rich())
}

// P8.1: bytes cut off at every place are none's, of headers behind and ahead of what they tell; others behind the end are as good.
func TestBytesCutOffAndMore(t *testing.T) {
	b := file(entries(rich()))
	for n := range b {
		mustGetNone(t, b[:n])
		mustGetNone(t, b[:n:n])
	}
	ahead := fileWith(entries(rich()), nil, true)
	for n := range ahead {
		mustGetNone(t, ahead[:n])
	}
	mustGetNone(t, nil)
	mustGetNone(t, []byte{})
	mustGetNone(t, make([]byte, 64))
	mustGetNone(t, make([]byte, 16384))
	mustGetNone(t, bytes.Repeat([]byte{255}, 2000))
	for _, b := range [][]byte{b, ahead} {
		for _, n := range []int{1, 23, 24, 63, 64, 65, 1000, 16383 - len(b), 16384 - len(b)} {
			mustGet(t, append(bytes.Clone(b), make([]byte, n)...), rich())
			mustGet(t, append(bytes.Clone(b), bytes.Repeat([]byte{255}, n)...), rich())
		}
		for _, n := range []int{16385, 16386, 20000, 1 << 20} {
			mustGetNone(t, append(bytes.Clone(b), make([]byte, n-len(b))...))
		}
	}
}

// P8.1: each byte of some objects turned to some others, as the plain reading has it.
func TestEachByteTurned(t *testing.T) {
	small := changed(func(o *api.Obj) {
		o.Secs = o.Secs[:1]
		o.Secs[0].Flags, o.Secs[0].Rels = 6, o.Secs[0].Rels[:1]
		o.Secs[0].Rels[0].Sym = 1
		o.Syms, o.Groups, o.Sig = o.Syms[:2], nil, []int{1}
	})
	all := file(entries(small))
	for i := range all {
		for c := range 256 {
			b := bytes.Clone(all)
			b[i] = byte(c)
			checkBytes(t, b)
		}
	}
	for _, ahead := range []bool{false, true} {
		all := fileWith(entries(rich()), nil, ahead)
		for i := range all {
			for _, c := range []byte{0, 1, 2, 3, 4, 8, 13, 16, 17, 24, 127, 128, 255, all[i] + 1, all[i] - 1, all[i] ^ 128, all[i] ^ 64, all[i] ^ 32} {
				b := bytes.Clone(all)
				b[i] = c
				checkBytes(t, b)
			}
		}
	}
}

// R2: Get changes nothing that is handed in, nor what stands behind it.
func TestGetChangesNothing(t *testing.T) {
	b := append(file(entries(rich())), 1, 2, 3, 4)
	want := bytes.Clone(b)
	for n := range len(b) + 1 {
		obj.Get(b[:n])
	}
	if !bytes.Equal(b, want) {
		t.Error("the bytes are changed")
	}
}

// P8.2: what Get tells is new memory: it shares none with the bytes, nor with what else it tells.
func TestGetTellsNewMemory(t *testing.T) {
	l := entries(rich())
	off := 64 + uint64(len(rich().Secs[0].Data))
	l[commentHead-1].off, l[commentHead-1].size = off, 16 // the same bytes as the second section's
	b := file(l)
	want := changed(func(o *api.Obj) { o.Secs[6].Size, o.Secs[6].Data = 16, o.Secs[1].Data })
	first, err := obj.Get(b)
	second, _ := obj.Get(b)
	if err != nil || !same(first, want) {
		t.Fatalf("%+v, %v", first, err)
	}
	clear(b)
	if !same(first, want) {
		t.Error("the bytes, changed, change what was told")
	}
	fill(first.Secs[1].Data, 0xee)
	if !reflect.DeepEqual(first.Secs[6].Data, second.Secs[6].Data) || !same(second, want) {
		t.Error("two lists are one")
	}
	for i := range first.Secs {
		fill(first.Secs[i].Data, 0xee)
		fill(first.Secs[i].Rels, api.Rel{Off: 0xee})
	}
	for i := range first.Groups {
		fill(first.Groups[i].Members, 0xee)
		if other := first.Groups[(i+1)%2].Members; i == 0 && !slices.Equal(other, want.Groups[1].Members) {
			t.Error("groups share their members")
		}
	}
	fill(first.Sig, 0xee)
	fill(first.Syms, api.Sym{Name: "other"})
	fill(first.Groups, api.Group{Sym: 0xee})
	fill(first.Secs, api.Sec{Name: "other"})
	if !same(second, want) {
		t.Error("what was told, changed, changes what is told again")
	}
}

// fill writes one element everywhere in a list, also behind its end, where it has room.
func fill[E any](l []E, e E) {
	l = l[:cap(l)]
	for i := range l {
		l[i] = e
	}
}
