package obj_test

import (
	"bytes"
	"encoding/binary"
	"slices"
	"strings"
	"testing"

	"fishplate/api"
	"fishplate/obj"
)

// P8.1: section headers in another order than Put's, written by hand: the symbols' ahead of all, one table for all names, groups ahead of sections.
func TestHeadersInAnotherOrder(t *testing.T) {
	texts := "\x00f\x00g\x00.text\x00.bss\x00"
	l := []entry{
		{name: "f", kind: 2, link: 2, info: 2, ent: 24, told: slices.Concat(make([]byte, 24), symbol(5, 3, 8, 1, 0), symbol(1, 18, 8, 0, 3), symbol(3, 33, 5, 7, 0), symbol(3, 16, 65521, 4, 4))},
		{name: "f", kind: 3, told: []byte(texts)},
		{name: "g", kind: 17, link: 1, info: 2, ent: 4, told: words(1, 4, 8)},
		{name: "g", kind: 4, link: 1, info: 8, ent: 24, told: relocation(2, 11, 3, 1)},
		{name: "z", kind: 8, flags: 1 + 2 + 128 + 512, link: 8, size: 9},
		{name: "a", kind: sigType, link: 1, told: []byte{3, 131, 0}},
		{name: "g", kind: 17, link: 1, info: 4, ent: 4, told: words(1, 5)},
		{name: "b", kind: 1, flags: 2 + 4 + 512, align: 2, told: []byte{9, 8, 7, 6, 5, 4}},
		{name: "", kind: 3},
	}
	want := api.Obj{
		Secs: []api.Sec{
			{Name: "z", Type: 8, Flags: 1 + 2 + 128 + 512, Align: 1, Link: 2, Size: 9},
			{Name: "b", Type: 1, Flags: 2 + 4 + 512, Align: 2, Size: 6, Data: []byte{9, 8, 7, 6, 5, 4}, Rels: []api.Rel{{Off: 2, Type: 11, Sym: 3, Add: 1}}},
		},
		Syms: []api.Sym{
			{},
			{Name: ".text", Type: 3, Sec: 2, Value: 1},
			{Name: "f", Bind: 1, Type: 2, Sec: 2, Size: 3},
			{Name: "g", Bind: 2, Type: 1, Sec: 1, Value: 7},
			{Name: "g", Bind: 1, Sec: -1, Value: 4, Size: 4},
		},
		Groups: []api.Group{{Sym: 2, Members: []int{2}}, {Sym: 4, Members: []int{1}}},
		HasSig: true,
		Sig:    []int{3, 3},
	}
	for _, gap := range [][]byte{nil, {5}, make([]byte, 30)} {
		mustGet(t, fileWith(l, gap, false), want)
		mustGet(t, fileWith(l, gap, true), want)
	}
	mustMay(t, want)
	b, _ := obj.Put(want)
	if !bytes.Equal(b, file(entries(want))) || bytes.Equal(b, file(l)) {
		t.Errorf("%v", b)
	}
}

// P8.1: one table of names for symbols and for headers.
func TestOneTableForAllNames(t *testing.T) {
	l := []entry{
		{name: ".data", kind: 1, flags: 3, told: []byte{1}},
		{name: "g", kind: 2, link: 3, info: 1, ent: 24, told: append(make([]byte, 24), symbol(7, 16, 1, 1, 0)...)},
		{name: "names", kind: 3},
	}
	mustGet(t, file(l), api.Obj{
		Secs: []api.Sec{{Name: ".data", Type: 1, Flags: 3, Align: 1, Size: 1, Data: []byte{1}}},
		Syms: []api.Sym{{}, {Name: "g", Bind: 1, Sec: 1, Value: 1}},
	})
}

// permuted tells section headers in another order: number k comes to be number to[k]; all that names headers goes with them.
func permuted(l []entry, to []uint64) []entry {
	out := make([]entry, len(l))
	for i, e := range l {
		if e.kind != 1 && e.kind != 8 || e.flags&api.Order != 0 {
			e.link = to[e.link]
		}
		e.told = bytes.Clone(e.told)
		switch e.kind {
		case 4:
			e.info = to[e.info]
		case 17:
			for at := 4; at < len(e.told); at += 4 {
				n := binary.LittleEndian.Uint32(e.told[at:])
				binary.LittleEndian.PutUint32(e.told[at:], uint32(to[n]))
			}
		case 2:
			for at := 0; at < len(e.told); at += 24 {
				if n := binary.LittleEndian.Uint16(e.told[at+6:]); n < 65521 {
					binary.LittleEndian.PutUint16(e.told[at+6:], uint16(to[n]))
				}
			}
		}
		out[to[i+1]-1] = e
	}
	return out
}

// P8.1: the rich object's section headers in many orders: as long as sections and groups keep theirs, the object is the same.
func TestTheSameObjectInManyOrders(t *testing.T) {
	l := entries(rich())
	for turn := range 60 {
		// Sections, groups, and each other header go to places that a short rule tells; sections keep their order, and groups theirs.
		rank := func(n int) int {
			switch {
			case n <= commentHead:
				return n * (1 + turn%7)
			case n == groupHead || n == secondGroup:
				return n*(turn%5) - turn
			}
			return (n*n*(turn+3) + 11*turn) % 61
		}
		order := []int{1, 2, 3, 4, 5, 6, 7, 8, 9, 10, 11, 12, 13, 14, 15}
		slices.SortStableFunc(order, func(a, b int) int { return rank(a) - rank(b) })
		to := make([]uint64, 16)
		for i, n := range order {
			to[n] = uint64(i + 1)
		}
		b := fileWith(permuted(l, to), nil, turn%2 == 0)
		mustGet(t, b, rich())
	}
}

// P8.1: sections, and groups, are told in the order of their headers.
func TestOrderOfSectionsAndGroups(t *testing.T) {
	to := make([]uint64, 16)
	for n := range to {
		to[n] = uint64(n)
	}
	to[1], to[7], to[2], to[4], to[10], to[11] = 7, 1, 4, 2, 11, 10
	l := permuted(entries(rich()), to)
	want := changed(func(o *api.Obj) {
		o.Secs[0], o.Secs[6] = o.Secs[6], o.Secs[0]
		o.Secs[1], o.Secs[3] = o.Secs[3], o.Secs[1]
		o.Secs[5].Link = 7
		o.Groups = []api.Group{{Sym: 7, Members: []int{3}}, {Sym: 4, Members: []int{6, 7}}}
		for i, s := range o.Syms {
			if s.Sec > 0 {
				o.Syms[i].Sec = int(to[s.Sec])
			}
		}
	})
	mustGetNone(t, file(l)) // its first group's members fall
	l[10].told = words(1, 6, 7)
	mustGet(t, file(l), want)
}

// P8.1: 32 sections, and one more.
func TestHowManySectionsAreGot(t *testing.T) {
	for _, n := range []int{0, 1, 31, 32, 33, 34, 60} {
		o := api.Obj{Syms: []api.Sym{{}}}
		for range n {
			o.Secs = append(o.Secs, zeros(7))
		}
		if n > 32 {
			mustGetNone(t, file(entries(o)))
		} else {
			mustGet(t, file(entries(o)), o)
		}
	}
}

// P8.1, P8.3: an object may be got whose own bytes would be too many; it may not be put.
func TestGetOfAnObjectOfTooManyBytes(t *testing.T) {
	o := api.Obj{Secs: []api.Sec{data(8000)}, Syms: []api.Sym{{}}}
	for range 10 {
		l := entries(o)
		for i := 1; i < len(o.Secs); i++ {
			l[i].told, l[i].off, l[i].size = nil, 64, 8000
		}
		b := file(l)
		mustGet(t, b, o)
		got, err := obj.Get(b)
		if err != nil {
			t.Fatal(err)
		}
		hold(t, len(o.Secs) <= 1, got)
		o.Secs = append(o.Secs, data(8000))
	}
	whole := file(entries(rich()))
	whole = append(whole, make([]byte, 16384-len(whole))...)
	binary.LittleEndian.PutUint64(whole[headerAt(whole, commentHead)+24:], 0)
	binary.LittleEndian.PutUint64(whole[headerAt(whole, commentHead)+32:], 16384)
	want := changed(func(o *api.Obj) { o.Secs[6].Size, o.Secs[6].Data = 16384, whole })
	mustGet(t, whole, want)
	mustMayNot(t, want)
}

// P8.3: what was put is got, of many objects, each with and without its parts.
func TestWhatWasPutIsGot(t *testing.T) {
	for turn := range 256 {
		bit := func(n int) bool { return turn>>n%2 == 1 }
		o := rich()
		if bit(0) {
			o.HasSig, o.Sig = false, nil
		}
		if bit(1) {
			o.Groups = o.Groups[:1]
			o.Secs[2].Flags -= api.Grouped
		}
		if bit(2) {
			o.Secs[0].Rels = nil
		}
		if bit(3) {
			o.Secs[1].Rels = o.Secs[1].Rels[1:2]
		}
		if bit(4) {
			o.Secs = append(o.Secs, texts(strings.Repeat("x", 200)+"\x00"), zeros(2147483647))
		}
		if bit(5) {
			o.Syms = append(o.Syms, api.Sym{Name: strings.Repeat("y", 32), Bind: api.Weak, Sec: 7})
		}
		if bit(6) {
			o.Secs[5].Link, o.Secs[5].Name = 7, ".text.f"
		}
		if bit(7) {
			o.Syms[1].Name, o.Syms[5].Name = "zeros", "zeros"
		}
		b, err := obj.Put(o)
		if err != nil {
			t.Fatal(turn, err)
		}
		mustGet(t, b, o)
		got, _ := obj.Get(b)
		mustMay(t, got)
	}
}
