package obj_test

import (
	"fmt"
	"slices"
	"testing"

	"fishplate/api"
	"fishplate/obj"
)

// pointing tells an object of a section of so many bytes that has relocations.
func pointing(n int, rels ...api.Rel) api.Obj {
	s := data(n)
	s.Rels = rels
	return with(s)
}

// row tells so many relocations of four bytes, one behind the other.
func row(n int) []api.Rel {
	var l []api.Rel
	for i := range n {
		l = append(l, api.Rel{Off: 4 * i, Type: api.R32, Sym: i % 2, Add: i - 3})
	}
	return l
}

// P8.1: how many relocations a section may have.
func TestHowManyRelocations(t *testing.T) {
	for _, n := range []int{0, 1, 2, 63, 64, 65, 66, 128} {
		hold(t, n <= 64, pointing(4*n, row(n)...))
	}
	a, b := data(256), data(256)
	a.Rels, b.Rels = row(64), row(64)
	mustMay(t, with(a, b))
}

// P8.1: where a relocation may be, of each Type: within Data, at each place, to its end and behind.
func TestWhereARelocationMayBe(t *testing.T) {
	for kind, width := range map[int]int{1: 8, 2: 4, 4: 4, 10: 4, 11: 4} {
		for n := range 20 {
			for off := -9; off < 24; off++ {
				hold(t, off >= 0 && off+width <= n, pointing(n, api.Rel{Off: off, Type: kind, Sym: 1}))
			}
			for _, off := range append(far(), 2147483647, 16384) {
				mustMayNot(t, pointing(n, api.Rel{Off: off, Type: kind, Sym: 1}))
			}
		}
	}
	s := zeros(8)
	s.Rels = []api.Rel{{Type: api.R32}}
	mustMayNot(t, with(s))
	s = merged(8, "01234567")
	s.Rels = []api.Rel{{Type: api.R32}}
	mustMayNot(t, with(s))
	s.Flags, s.Ent = api.Alloc, 0
	mustMay(t, with(s))
}

// P8.1: of each two relocations the second one's bytes stand behind the first one's.
func TestRelocationsBehindEachOther(t *testing.T) {
	for first, width := range map[int]int{1: 8, 2: 4, 4: 4, 10: 4, 11: 4} {
		for second := range map[int]int{1: 8, 2: 4, 11: 4} {
			for at := range 4 {
				for off := range 20 {
					hold(t, off >= at+width, pointing(32, api.Rel{Off: at, Type: first}, api.Rel{Off: off, Type: second}))
				}
			}
		}
	}
	l := row(6)
	mustMay(t, pointing(24, l...))
	mustMay(t, pointing(24, l[1], l[4], l[5]))
	mustMayNot(t, pointing(24, l[0], l[3], l[2]))
	mustMayNot(t, pointing(24, l[0], l[3], l[1], l[4]))
	mustMayNot(t, pointing(24, l[0], l[1], l[1]))
	mustMayNot(t, pointing(24, l[5], l[0]))
}

// P8.1: Types of relocations, and their symbols; what is added may be any number.
func TestTypesAndSymbolsOfRelocations(t *testing.T) {
	for _, kind := range append(far(), 0, 1, 2, 3, 4, 5, 8, 9, 10, 11, 12, 16, 24, 266, 65537) {
		hold(t, kind == 1 || kind == 2 || kind == 4 || kind == 10 || kind == 11, pointing(8, api.Rel{Type: kind, Sym: 1}))
	}
	for _, n := range append(far(), 0, 1, 2, 3, 127, 128, 129, 2147483647) {
		hold(t, n == 0 || n == 1, pointing(8, api.Rel{Type: 1, Sym: n}))
		hold(t, n >= 0 && n < 9, changed(func(o *api.Obj) { o.Secs[0].Rels[1].Sym = n }))
		hold(t, n >= 0 && n < 128, many(128, func(o *api.Obj) { o.Secs[0].Rels = []api.Rel{{Type: 2, Sym: n}} }))
		mustMay(t, pointing(8, api.Rel{Type: 1, Sym: 1, Add: n}))
	}
	for n := range 12 {
		hold(t, n < 9, changed(func(o *api.Obj) { o.Secs[1].Rels[2].Sym = n }))
	}
}

// many tells an object of a section and so many symbols, with a change.
func many(n int, change func(o *api.Obj)) api.Obj {
	o := api.Obj{Secs: []api.Sec{data(8)}}
	for i := range n {
		o.Syms = append(o.Syms, api.Sym{Name: fmt.Sprint("s", i), Bind: api.Weak, Sec: 1, Value: i % 9})
	}
	if n > 0 {
		o.Syms[0] = api.Sym{}
	}
	if change != nil {
		change(&o)
	}
	return o
}

// P8.1: how many sections and symbols an object may have.
func TestHowManySectionsAndSymbols(t *testing.T) {
	for _, n := range []int{0, 1, 2, 127, 128, 129, 130, 256} {
		hold(t, n >= 1 && n <= 128, many(n, nil))
	}
	for _, n := range []int{0, 1, 31, 32, 33, 34, 64} {
		o := api.Obj{Syms: []api.Sym{{}}}
		for i := range n {
			o.Secs = append(o.Secs, data(i))
		}
		hold(t, n <= 32, o)
	}
	mustMayNot(t, api.Obj{})
	mustMayNot(t, api.Obj{Secs: []api.Sec{data(1)}})
}

// P8.1: the first symbol is zero.
func TestTheFirstSymbol(t *testing.T) {
	for _, s := range []api.Sym{
		{Name: "a"}, {Bind: api.Global}, {Bind: api.Weak}, {Type: 1}, {Sec: 1}, {Sec: -1}, {Value: 1}, {Size: 1},
		{Name: "a", Bind: api.Global}, {Name: "a", Sec: 1}, {Name: "a", Bind: api.Global, Sec: -1},
	} {
		mustMayNot(t, changed(func(o *api.Obj) { o.Syms[0] = s }))
		mustMayNot(t, api.Obj{Secs: rich().Secs[:1:1], Syms: []api.Sym{s}})
		mustMayNot(t, api.Obj{Syms: []api.Sym{s}})
	}
	mustMayNot(t, changed(func(o *api.Obj) { o.Syms = o.Syms[1:] }))
	mustMayNot(t, many(3, func(o *api.Obj) { o.Syms[1] = api.Sym{} }))
}

// P8.1: Local ones stand ahead of all others.
func TestLocalOnesAhead(t *testing.T) {
	local, global, weak := api.Sym{Name: "l", Sec: 1}, api.Sym{Name: "g", Bind: 1, Sec: 1}, api.Sym{Name: "w", Bind: 2, Sec: 1}
	for _, c := range []struct {
		may  bool
		syms []api.Sym
	}{
		{true, []api.Sym{local}}, {true, []api.Sym{global}}, {true, []api.Sym{weak}},
		{true, []api.Sym{local, local, global}}, {true, []api.Sym{local, weak, global, weak}}, {true, []api.Sym{global, weak, global}},
		{false, []api.Sym{global, local}}, {false, []api.Sym{weak, local}}, {false, []api.Sym{local, global, local}},
		{false, []api.Sym{local, weak, global, local}}, {false, []api.Sym{global, local, global}}, {false, []api.Sym{weak, local, local}},
	} {
		hold(t, c.may, api.Obj{Secs: []api.Sec{data(1)}, Syms: append([]api.Sym{{}}, c.syms...)})
	}
}

// lone tells an object of a section of each Type, and one symbol.
func lone(s api.Sym) api.Obj {
	return api.Obj{Secs: []api.Sec{data(5), zeros(2147483647), data(0)}, Syms: []api.Sym{{}, s}}
}

// P8.1: the numbers of a symbol.
func TestNumbersOfSymbols(t *testing.T) {
	for _, n := range append(far(), 0, 1, 2, 3, 4, 5, 8, 9, 15, 16, 17, 32, 256, 2147483646, 2147483647) {
		for k := 1; k < 9; k++ {
			hold(t, n >= 0 && n <= 3, changed(func(o *api.Obj) { o.Syms[k].Type = n }))
			hold(t, n >= 0 && n <= 2147483647, changed(func(o *api.Obj) { o.Syms[k].Size = n }))
		}
		for sec := -1; sec <= 3; sec++ {
			may := n == 1 || n == 2 || n == 0 && sec != 0
			hold(t, may, lone(api.Sym{Name: "x", Bind: n, Sec: sec}))
		}
	}
}

// P8.1: where a symbol is: undefined, absolute, in a section that is there.
func TestSectionsOfSymbols(t *testing.T) {
	for _, n := range append(far(), -3, 0, 1, 2, 3, 4, 5, 32, 33, 128, 65520, 65521, 65522, 65535, 65536, 2147483647) {
		for bind := range 3 {
			hold(t, n >= -1 && n <= 3 && (n != 0 || bind != 0), lone(api.Sym{Name: "x", Bind: bind, Sec: n}))
			o := api.Obj{Syms: []api.Sym{{}, {Name: "x", Bind: bind, Sec: n}}}
			hold(t, n == -1 || n == 0 && bind != 0, o)
		}
	}
}

// P8.1: the Value of a symbol: of a section up to its Size, of an undefined one 0, of an absolute one any place.
func TestValuesOfSymbols(t *testing.T) {
	for _, n := range append(far(), 0, 1, 2, 4, 5, 6, 7, 255, 256, 16384, 16385, 2147483646, 2147483647) {
		for bind := range 3 {
			place := n >= 0 && n <= 2147483647
			hold(t, n >= 0 && n <= 5, lone(api.Sym{Name: "x", Bind: bind, Sec: 1, Value: n}))
			hold(t, place, lone(api.Sym{Name: "x", Bind: bind, Sec: 2, Value: n}))
			hold(t, n == 0, lone(api.Sym{Name: "x", Bind: bind, Sec: 3, Value: n}))
			hold(t, place, lone(api.Sym{Name: "x", Bind: bind, Sec: -1, Value: n}))
			hold(t, n == 0 && bind != 0, lone(api.Sym{Name: "x", Bind: bind, Value: n}))
			// Its Size isn't held against the section's.
			hold(t, place, lone(api.Sym{Name: "x", Bind: bind, Sec: 1, Value: 5, Size: n}))
		}
		o := lone(api.Sym{Name: "x", Bind: 1, Sec: 2, Value: n})
		o.Secs[1].Size = 6
		hold(t, n >= 0 && n <= 6, o)
	}
}

// P8.1: one that isn't Local has a Name, one that is Local isn't undefined.
func TestNamelessAndUndefinedSymbols(t *testing.T) {
	for sec := -1; sec <= 3; sec++ {
		for bind := range 3 {
			hold(t, bind == 0 && sec != 0, lone(api.Sym{Bind: bind, Sec: sec}))
			hold(t, bind != 0 || sec != 0, lone(api.Sym{Name: "x", Bind: bind, Sec: sec}))
		}
	}
	mustMayNot(t, changed(func(o *api.Obj) { o.Syms[1].Sec = 0 }))
	mustMayNot(t, changed(func(o *api.Obj) { o.Syms[4].Name = "" }))
	mustMayNot(t, changed(func(o *api.Obj) { o.Syms[8].Name = "" }))
}

// grouped tells an object of four sections, of which some are Grouped, with groups of some members each, of symbol 1.
func grouped(flagged []int, members ...[]int) api.Obj {
	o := with(data(1), data(2), zeros(3), texts("a\x00"))
	for _, n := range flagged {
		o.Secs[n-1].Flags |= api.Grouped
	}
	for _, l := range members {
		o.Groups = append(o.Groups, api.Group{Sym: 1, Members: l})
	}
	return o
}

// P8.1: members of groups, and which sections have Grouped.
func TestMembersOfGroups(t *testing.T) {
	all := []int{1, 2, 3, 4}
	for _, c := range []struct {
		may     bool
		flagged []int
		members [][]int
	}{
		{true, nil, nil},
		{true, all, [][]int{all}},
		{true, all, [][]int{{1, 3}, {2, 4}}},
		{true, all, [][]int{{4}, {2, 3}, {1}}},
		{true, []int{3}, [][]int{{3}}},
		{true, []int{1, 4}, [][]int{{1, 4}}},
		// None, also beside another group.
		{false, nil, [][]int{{}}}, {false, nil, [][]int{nil}}, {false, []int{2}, [][]int{{2}, {}}}, {false, []int{2}, [][]int{{}, {2}}},
		// Twice, falling, in two groups.
		{false, []int{2}, [][]int{{2, 2}}}, {false, []int{2, 3}, [][]int{{3, 2}}}, {false, all, [][]int{{1, 2, 4, 3}}}, {false, []int{1, 2}, [][]int{{1, 2, 1}}},
		{false, []int{2}, [][]int{{2}, {2}}}, {false, all, [][]int{{1, 2, 3}, {3, 4}}}, {false, []int{1, 2, 3}, [][]int{{1}, {2}, {1, 3}}},
		// No sections.
		{false, nil, [][]int{{0}}}, {false, []int{1}, [][]int{{0, 1}}}, {false, nil, [][]int{{5}}}, {false, []int{4}, [][]int{{4, 5}}},
		{false, nil, [][]int{{-1}}}, {false, []int{1}, [][]int{{-1, 1}}},
		// Grouped without a group, a member without Grouped.
		{false, []int{1}, nil}, {false, []int{4}, nil}, {false, all, [][]int{{1, 2, 3}}}, {false, []int{2}, [][]int{{1}}},
		{false, nil, [][]int{{1}}}, {false, []int{1, 2, 3}, [][]int{all}}, {false, []int{2, 3, 4}, [][]int{{1, 2}, {3, 4}}},
	} {
		hold(t, c.may, grouped(c.flagged, c.members...))
	}
	for _, n := range append(far(), 6, 32, 33, 2147483647) {
		mustMayNot(t, grouped(nil, []int{n}))
		mustMayNot(t, grouped([]int{4}, []int{4, n}))
		mustMayNot(t, grouped([]int{4}, []int{n, 4}))
		mustMayNot(t, grouped([]int{4}, []int{4}, []int{n}))
	}
}

// P8.1: as many groups as sections, of all 32, and one more.
func TestAsManyGroupsAsSections(t *testing.T) {
	o := many(2, nil)
	o.Secs = nil
	for i := range 32 {
		s := zeros(8)
		s.Flags |= api.Grouped
		o.Secs = append(o.Secs, s)
		o.Groups = append(o.Groups, api.Group{Sym: 1, Members: []int{32 - i}})
	}
	mustMay(t, o)
	o.Groups = append(o.Groups, api.Group{Sym: 1, Members: []int{33}})
	mustMayNot(t, o)
}

// P8.1: the symbol of a group: any but number 0, also one without a name, and one of two groups.
func TestSymbolsOfGroups(t *testing.T) {
	for _, n := range append(far(), 0, 1, 2, 3, 4, 5, 6, 7, 8, 9, 10, 127, 128, 2147483647) {
		hold(t, n >= 1 && n <= 8, changed(func(o *api.Obj) { o.Groups[0].Sym = n }))
		hold(t, n >= 1 && n <= 8, changed(func(o *api.Obj) { o.Groups[1].Sym = n }))
		o := grouped([]int{1}, []int{1})
		o.Groups[0].Sym = n
		hold(t, n == 1, o)
		o = api.Obj{Secs: o.Secs, Syms: []api.Sym{{}}, Groups: o.Groups}
		mustMayNot(t, o)
	}
}

// P8.1: Sig: numbers of symbols, in any order, also twice; none without HasSig.
func TestSig(t *testing.T) {
	for _, n := range append(far(), 0, 1, 2, 3, 4, 5, 6, 7, 8, 9, 10, 127, 128, 129, 255, 2147483647) {
		for k := range 3 {
			hold(t, n >= 0 && n <= 8, changed(func(o *api.Obj) { o.Sig[k] = n }))
			mustMayNot(t, changed(func(o *api.Obj) { o.Sig[k], o.HasSig = n, false }))
		}
		hold(t, n >= 0 && n <= 127, many(128, func(o *api.Obj) { o.HasSig, o.Sig = true, []int{n} }))
		mustMayNot(t, many(128, func(o *api.Obj) { o.Sig = []int{n} }))
	}
	for _, l := range [][]int{nil, {}, {0}, {0, 0}, {8, 7, 6, 5, 4, 3, 2, 1, 0}, {3, 3, 3}, slices.Repeat([]int{8}, 1000)} {
		mustMay(t, changed(func(o *api.Obj) { o.Sig = l }))
		hold(t, len(l) == 0, changed(func(o *api.Obj) { o.Sig, o.HasSig = l, false }))
	}
}

// P8.1: objects of just 16384 bytes, and of one more, by a section's Data, Sig, names, relocations.
func TestHowManyBytes(t *testing.T) {
	for _, base := range []api.Obj{with(data(0)), changed(func(o *api.Obj) { o.Secs = append(o.Secs, data(0)) })} {
		rest := 16384 - len(file(entries(base)))
		last := len(base.Secs) - 1
		for _, more := range []int{-65, -1, 0, 1, 2, 63, 64, 65, 1000} {
			o := base
			o.Secs = slices.Clone(base.Secs)
			o.Secs[last] = data(rest + more)
			if n := len(file(entries(o))); n != 16384+more {
				t.Fatalf("%d bytes; want %d", n, 16384+more)
			}
			hold(t, more <= 0, o)
			o.Secs[last] = zeros(2147483647)
			mustMay(t, o)
			o.HasSig = true
			o.Sig = nil
			o.Sig = make([]int, 16384-len(file(entries(o)))+more)
			hold(t, more <= 0, o)
		}
	}
	for _, n := range []int{16383, 16384, 16385, 16386, 32768, 1 << 20} {
		mustMayNot(t, with(data(n)))
		mustMayNot(t, changed(func(o *api.Obj) { o.Sig = make([]int, n) }))
	}
	mustMayNot(t, with(slices.Repeat([]api.Sec{data(600)}, 32)...))
	long := many(128, func(o *api.Obj) {
		for i := range o.Syms[1:] {
			o.Syms[i+1].Name = fmt.Sprintf("%032d", i)
		}
	})
	mustMay(t, long)
	spare := 16384 - len(file(entries(long)))
	long.Secs[0] = data(8 + spare)
	mustMay(t, long)
	long.Secs[0].Name += "x"
	mustMayNot(t, long)
}

// P8.1: of many relocations all bytes count.
func TestHowManyBytesOfRelocations(t *testing.T) {
	o := with()
	for range 9 {
		s := data(256)
		s.Rels = row(64)
		o.Secs = append(o.Secs, s)
	}
	mustMayNot(t, o)
	o.Secs = o.Secs[:8]
	mustMay(t, o)
	o.Secs = append(o.Secs, data(0))
	spare := 16384 - len(file(entries(o)))
	o.Secs[8] = data(spare)
	mustMay(t, o)
	o.Secs[8] = data(spare + 1)
	mustMayNot(t, o)
}

// P8.1: several faults don't make up for each other.
func TestTwoFaults(t *testing.T) {
	faults := []func(o *api.Obj){
		func(o *api.Obj) { o.Secs[0].Name = "a\x00" },
		func(o *api.Obj) { o.Secs[1].Align = 3 },
		func(o *api.Obj) { o.Secs[2].Size = -1 },
		func(o *api.Obj) { o.Secs[3].Data = []byte("abcdef") },
		func(o *api.Obj) { o.Secs[4].Ent = 5 },
		func(o *api.Obj) { o.Secs[5].Link = 6 },
		func(o *api.Obj) { o.Secs[6].Flags = 8 },
		func(o *api.Obj) { o.Secs[0].Rels[1].Off = 9 },
		func(o *api.Obj) { o.Syms[2].Value = 7 },
		func(o *api.Obj) { o.Syms[5].Value = 1 },
		func(o *api.Obj) { o.Groups[0].Members = []int{6, 1} },
		func(o *api.Obj) { o.HasSig = false },
	}
	for i, first := range faults {
		mustMayNot(t, changed(first))
		for _, second := range faults[:i] {
			mustMayNot(t, changed(func(o *api.Obj) { first(o); second(o) }))
		}
	}
}

// R2: May and Put change nothing that is handed in, nor what stands behind it.
func TestPutChangesNothing(t *testing.T) {
	o := changed(func(o *api.Obj) {
		o.Secs = append(o.Secs, data(3))[:7]
		o.Secs[0].Data = append(o.Secs[0].Data, 77)[:12]
		o.Secs[6].Data = []byte{88}[:0]
		o.Secs[0].Rels = append(o.Secs[0].Rels, api.Rel{Off: 99})[:2]
		o.Syms = append(o.Syms, api.Sym{Name: "behind"})[:9]
		o.Groups[0].Members = append(o.Groups[0].Members, 66)[:2]
		o.Sig = append(o.Sig, 55)[:3]
	})
	obj.May(o)
	obj.Put(o)
	if !same(o, rich()) || !same(api.Obj{Secs: o.Secs[7:8]}, api.Obj{Secs: []api.Sec{data(3)}}) {
		t.Errorf("%+v is changed", o)
	}
	if o.Secs[0].Data[:13][12] != 77 || o.Secs[6].Data[:1][0] != 88 || o.Secs[0].Rels[:3][2].Off != 99 || o.Syms[:10][9].Name != "behind" || o.Groups[0].Members[:3][2] != 66 || o.Sig[:4][3] != 55 {
		t.Errorf("what stands behind is changed")
	}
}

// P8.2: what Put tells is new memory.
func TestPutTellsNewMemory(t *testing.T) {
	o := rich()
	want := file(entries(o))
	first, _ := obj.Put(o)
	second, _ := obj.Put(o)
	first = first[:cap(first)]
	for i := range first {
		first[i] = 0xee
	}
	if string(second) != string(want) || !same(o, rich()) {
		t.Errorf("what was told, changed, changes others")
	}
	for i := range o.Secs {
		for k := range o.Secs[i].Data {
			o.Secs[i].Data[k] = 0xdd
		}
	}
	if string(second) != string(want) {
		t.Errorf("the object, changed, changes what was told")
	}
}
