package obj_test

import (
	"slices"
	"strings"
	"testing"

	"fishplate/api"
)

// more tells the rich object's bytes with further section headers, of numbers 16 and on.
func more(l ...entry) []byte { return file(append(entries(rich()), l...)) }

// P8.1: just one section header is of Type 2.
func TestHowManySymbolHeaders(t *testing.T) {
	l := entries(rich())
	mustGetNone(t, more(l[symsHead-1]))
	mustGetNone(t, more(entry{name: "s", kind: 2, link: 14, ent: 24}))
	mustGetNone(t, more(entry{name: "s", kind: 2, link: 14, info: 1, ent: 24, told: make([]byte, 24)}))
	mustGetNone(t, file(slices.Insert(slices.Clone(l), 7, entry{name: "s", kind: 2, link: 15, info: 1, ent: 24, told: make([]byte, 24)})))
	none := entries(api.Obj{Secs: []api.Sec{data(3)}, Syms: []api.Sym{{}}})
	mustGet(t, file(none), api.Obj{Secs: []api.Sec{data(3)}, Syms: []api.Sym{{}}})
	mustGetNone(t, file(slices.Delete(slices.Clone(none), 1, 2)))
	none[1].kind = 3
	mustGetNone(t, file(none))
	mustGetNone(t, file([]entry{{name: ".shstrtab", kind: 3}}))
}

// P8.1: of the symbols' header: Ent 24 divides Size, Link is of Type 3, Info is how many Local ones there are.
func TestSymbolHeader(t *testing.T) {
	for _, v := range []uint64{0, 1, 4, 8, 12, 23, 25, 48, 72, 216, 2147483647} {
		mustGetNone(t, turned(symsHead, func(e *entry) { e.ent = v }))
	}
	for n := range 217 {
		b := turned(symsHead, func(e *entry) { e.told = e.told[:n] })
		switch n {
		case 216:
			mustGet(t, b, rich())
		case 192: // just the last one is named by nothing
			mustGet(t, b, changed(func(o *api.Obj) { o.Syms = o.Syms[:8] }))
		default:
			mustGetNone(t, b)
		}
	}
	for n := range uint64(20) {
		b := turned(symsHead, func(e *entry) { e.link = n })
		switch n {
		case textsHead:
			mustGet(t, b, rich())
		case namesHead:
			checkBytes(t, b)
		default:
			mustGetNone(t, b)
		}
		b = turned(symsHead, func(e *entry) { e.info = n })
		if n == 4 {
			mustGet(t, b, rich())
		} else {
			mustGetNone(t, b)
		}
	}
	for _, v := range []uint64{255, 256 + 14, 65536 + 14, 2147483647} {
		mustGetNone(t, turned(symsHead, func(e *entry) { e.link = v }))
	}
	for _, v := range []uint64{256 + 4, 65536 + 4, 2147483647} {
		mustGetNone(t, turned(symsHead, func(e *entry) { e.info = v }))
	}
}

// symbolsOf tells an object's bytes: a section of 5 bytes, one header more of each kind, and symbols behind the zero one, whose names stand in texts.
func symbolsOf(texts string, locals uint64, syms ...[]byte) []byte {
	return file([]entry{
		{name: ".rela", kind: 4, link: 4, info: 3, ent: 24},
		{name: ".llvm_addrsig", kind: sigType, link: 4},
		{name: ".data", kind: 1, flags: 3, told: []byte{1, 2, 3, 4, 5}},
		{name: ".symtab", kind: 2, link: 5, info: locals, ent: 24, told: slices.Concat(append([][]byte{make([]byte, 24)}, syms...)...)},
		{name: ".strtab", kind: 3, told: []byte(texts)},
		{name: ".shstrtab", kind: 3},
	})
}

// P8.1: what a symbol's entry tells.
func TestEntriesOfSymbols(t *testing.T) {
	want := func(l ...api.Sym) api.Obj {
		s := data(5)
		return api.Obj{Secs: []api.Sec{s}, Syms: append([]api.Sym{{}}, l...), HasSig: true}
	}
	mustGet(t, symbolsOf("\x00", 1), want())
	const texts = "\x00ab\x00c\x00"
	good := symbol(2, 18, 3, 5, 77)
	mustGet(t, symbolsOf(texts, 1, good), want(api.Sym{Name: "b", Bind: 1, Type: 2, Sec: 1, Value: 5, Size: 77}))
	mustGet(t, symbolsOf(texts, 2, symbol(3, 0, 65521, 9, 0)), want(api.Sym{Sec: -1, Value: 9}))
	mustGet(t, symbolsOf(texts, 2, symbol(0, 3, 3, 0, 0), symbol(4, 32, 0, 0, 0)), want(api.Sym{Type: 3, Sec: 1}, api.Sym{Name: "c", Bind: 2}))
	for _, s := range [][]byte{
		symbol(2, 18, 3, 6, 0), symbol(2, 18, 3, 1<<31, 0), symbol(2, 18, 3, 1<<32, 0), symbol(2, 18, 3, 0, 1<<31), symbol(2, 18, 3, 0, bit63),
		symbol(2, 18, 1, 0, 0), symbol(2, 18, 2, 0, 0), symbol(2, 18, 4, 0, 0), symbol(2, 18, 5, 0, 0), symbol(2, 18, 6, 0, 0), symbol(2, 18, 7, 0, 0), symbol(2, 18, 8, 0, 0),
		symbol(2, 18, 65280, 0, 0), symbol(2, 18, 65520, 0, 0), symbol(2, 18, 65522, 0, 0), symbol(2, 18, 65535, 0, 0), symbol(2, 18, 259, 0, 0),
		symbol(2, 18, 0, 1, 0), symbol(2, 48, 3, 0, 0), symbol(2, 20, 3, 0, 0), symbol(2, 31, 3, 0, 0), symbol(2, 255, 3, 0, 0),
		symbol(6, 18, 3, 0, 0), symbol(7, 18, 3, 0, 0), symbol(2147483647, 18, 3, 0, 0), symbol(1<<31, 18, 3, 0, 0),
		symbol(0, 18, 3, 0, 0), symbol(3, 18, 3, 0, 0), symbol(5, 32, 0, 0, 0), make([]byte, 24),
		slices.Concat(good[:5], []byte{1}, good[6:]), slices.Concat(good[:5], []byte{128}, good[6:]),
	} {
		mustGetNone(t, symbolsOf(texts, 1, s))
		mustGetNone(t, symbolsOf(texts, 2, s))
		mustGetNone(t, symbolsOf(texts, 1, good, s))
	}
	mustGetNone(t, symbolsOf(texts, 2, good))
	mustGetNone(t, symbolsOf(texts, 2, good, symbol(4, 0, 3, 0, 0)))
}

// P8.1: how many symbols there may be, and that the first one is zero.
func TestHowManySymbolsAreGot(t *testing.T) {
	for _, n := range []int{126, 127, 128, 129, 200} {
		b := symbolsOf("\x00g\x00", 1, slices.Repeat([][]byte{symbol(1, 16, 3, 0, 0)}, n)...)
		if n > 127 {
			mustGetNone(t, b)
			continue
		}
		syms := append([]api.Sym{{}}, slices.Repeat([]api.Sym{{Name: "g", Bind: 1, Sec: 1}}, n)...)
		mustGet(t, b, api.Obj{Secs: []api.Sec{data(5)}, Syms: syms, HasSig: true})
	}
	empty := entries(api.Obj{Syms: []api.Sym{{}}})
	empty[0].told, empty[0].info = nil, 0
	mustGetNone(t, file(empty))
	for _, c := range []struct {
		first []byte
		texts string
		may   bool
	}{
		{symbol(0, 0, 0, 0, 0), "\x00", true},
		// It is zero by its name, wherever that one stands.
		{symbol(2, 0, 0, 0, 0), "ab\x00", true}, {symbol(0, 0, 0, 0, 0), "ab\x00", false}, {symbol(1, 0, 0, 0, 0), "\x00a\x00", false},
		{symbol(0, 16, 0, 0, 0), "\x00", false}, {symbol(0, 1, 0, 0, 0), "\x00", false}, {symbol(0, 0, 65521, 0, 0), "\x00", false},
		{symbol(0, 0, 0, 1, 0), "\x00", false}, {symbol(0, 0, 0, 0, 1), "\x00", false}, {symbol(1, 0, 0, 0, 0), "\x00", false}, {symbol(0, 0, 0, 0, 0), "", false},
	} {
		l := entries(api.Obj{Syms: []api.Sym{{}}})
		l[0].told, l[1].told = c.first, append([]byte{}, c.texts...)
		if c.may {
			mustGet(t, file(l), api.Obj{Syms: []api.Sym{{}}})
		} else {
			mustGetNone(t, file(l))
		}
	}
}

// P8.1: symbols' names: tables cut off, names of 32 and 33 bytes.
func TestNamesOfSymbols(t *testing.T) {
	whole := len(entries(rich())[textsHead-1].told)
	for n := range whole + 1 {
		b := turned(textsHead, func(e *entry) { e.told = e.told[:n:n] })
		if n == whole {
			mustGet(t, b, rich())
		} else {
			mustGetNone(t, b)
		}
	}
	for size := 1; size < 40; size++ {
		text := strings.Repeat("\xfe", size)
		b := symbolsOf("\x00"+text+"\x00", 1, symbol(1, 16, 3, 0, 0))
		if size > 32 {
			mustGetNone(t, b)
			continue
		}
		mustGet(t, b, api.Obj{Secs: []api.Sec{data(5)}, Syms: []api.Sym{{}, {Name: text, Bind: 1, Sec: 1}}, HasSig: true})
	}
}

// P8.1: of the relocations' header: Ent 24 divides Size, Link is the symbols', Info a section's header of Type 1.
func TestRelocationHeader(t *testing.T) {
	for n := range uint64(20) {
		b := turned(relaText, func(e *entry) { e.link = n })
		if n == symsHead {
			mustGet(t, b, rich())
		} else {
			mustGetNone(t, b)
		}
		// Of the sections some are too short, or merged; section 2 has another one.
		b = turned(relaText, func(e *entry) { e.info = n })
		if n == textHead {
			mustGet(t, b, rich())
		} else {
			mustGetNone(t, b)
		}
		// One that tells nothing may be of each one of Type 1 that has no other one.
		b = turned(relaText, func(e *entry) { e.info, e.told = n, nil })
		if n >= 1 && n <= 7 && n != dataHead && n != bssHead {
			mustGet(t, b, changed(func(o *api.Obj) { o.Secs[0].Rels = nil }))
		} else {
			mustGetNone(t, b)
		}
	}
	for _, v := range []uint64{256 + 1, 65536 + 1, 2147483647} {
		mustGetNone(t, turned(relaText, func(e *entry) { e.info = v }))
		mustGetNone(t, turned(relaText, func(e *entry) { e.link = v }))
	}
	for n := range 73 {
		b := turned(relaData, func(e *entry) { e.told = e.told[:n] })
		if n%24 == 0 {
			mustGet(t, b, changed(func(o *api.Obj) { o.Secs[1].Rels = o.Secs[1].Rels[:n/24] }))
		} else {
			mustGetNone(t, b)
		}
	}
}

// P8.1: no two headers of Type 4 are of one section, not even ones that tell nothing.
func TestTwoRelocationHeadersOfOneSection(t *testing.T) {
	for _, info := range []uint64{textHead, dataHead} {
		mustGetNone(t, more(entry{name: ".rela", kind: 4, link: symsHead, info: info, ent: 24}))
		mustGetNone(t, more(entry{name: ".rela", kind: 4, link: symsHead, info: info, ent: 24, told: relocation(8, 2, 0, 0)}))
	}
	empty := entry{name: ".rela", kind: 4, link: symsHead, info: metaHead, ent: 24}
	mustGet(t, more(empty), rich())
	mustGetNone(t, more(empty, empty))
	other := empty
	other.info = commentHead
	mustGet(t, more(empty, other), rich())
	mustGetNone(t, more(empty, other, empty))
	// It may stand ahead of its section, and ahead of the symbols.
	l := slices.Concat([]entry{empty}, entries(api.Obj{Secs: []api.Sec{data(8)}, Syms: []api.Sym{{}}}))
	l[0].link, l[0].info, l[0].told, l[2].link = 3, 2, relocation(4, 2, 0, 7), 4
	s := data(8)
	s.Rels = []api.Rel{{Off: 4, Type: 2, Add: 7}}
	mustGet(t, file(l), api.Obj{Secs: []api.Sec{s}, Syms: []api.Sym{{}}})
}

// P8.1: what relocations' bytes tell, and that they may be of their section.
func TestRelocationsThatAreGot(t *testing.T) {
	of := func(l ...[]byte) []byte {
		return turned(relaText, func(e *entry) { e.told = slices.Concat(l...) })
	}
	mustGet(t, of(relocation(0, 2, 8, -1), relocation(4, 1, 0, 5)), changed(func(o *api.Obj) {
		o.Secs[0].Rels = []api.Rel{{Off: 0, Type: 2, Sym: 8, Add: -1}, {Off: 4, Type: 1, Sym: 0, Add: 5}}
	}))
	for _, b := range [][]byte{
		relocation(9, 2, 0, 0), relocation(5, 1, 0, 0), relocation(12, 2, 0, 0), relocation(1<<31, 2, 0, 0), relocation(bit63, 2, 0, 0), relocation(1<<64-4, 2, 0, 0),
		relocation(0, 0, 0, 0), relocation(0, 3, 0, 0), relocation(0, 9, 0, 0), relocation(0, 1<<31+2, 0, 0), relocation(0, 258, 0, 0),
		relocation(0, 2, 9, 0), relocation(0, 2, 1<<31, 0), relocation(0, 2, 1<<32-1, 0), relocation(0, 2, 256, 0),
	} {
		mustGetNone(t, of(b))
		mustGetNone(t, of(relocation(0, 2, 0, 0), b))
	}
	mustGetNone(t, of(relocation(4, 2, 0, 0), relocation(0, 2, 0, 0)))
	mustGetNone(t, of(relocation(4, 2, 0, 0), relocation(7, 2, 0, 0)))
	mustGetNone(t, of(relocation(4, 2, 0, 0), relocation(4, 2, 0, 0)))
	mustGet(t, of(relocation(4, 2, 0, 0), relocation(8, 2, 0, 0)), changed(func(o *api.Obj) {
		o.Secs[0].Rels = []api.Rel{{Off: 4, Type: 2}, {Off: 8, Type: 2}}
	}))
	for _, n := range []int{63, 64, 65, 66} {
		want := pointing(280, row(n)...)
		if n > 64 {
			mustGetNone(t, file(entries(want)))
		} else {
			mustGet(t, file(entries(want)), want)
		}
	}
}

// P8.1: of a group's header: Ent 4 divides Size, Link is the symbols', Info its symbol, its first number 1.
func TestGroupHeader(t *testing.T) {
	for _, n := range []uint64{0, 1, 2, 3, 5, 8, 24, 2147483647} {
		mustGetNone(t, turned(groupHead, func(e *entry) { e.ent = n }))
	}
	for n := range uint64(20) {
		b := turned(groupHead, func(e *entry) { e.link = n })
		if n == symsHead {
			mustGet(t, b, rich())
		} else {
			mustGetNone(t, b)
		}
		b = turned(groupHead, func(e *entry) { e.info = n })
		if n >= 1 && n <= 8 {
			mustGet(t, b, changed(func(o *api.Obj) { o.Groups[0].Sym = int(n) }))
		} else {
			mustGetNone(t, b)
		}
	}
	for _, n := range []uint64{256 + 4, 65536 + 4, 2147483647} {
		mustGetNone(t, turned(groupHead, func(e *entry) { e.info = n }))
		mustGetNone(t, turned(groupHead, func(e *entry) { e.link = n }))
	}
	for n := range 12 {
		mustGetNone(t, turned(groupHead, func(e *entry) { e.told = e.told[:n] }))
	}
	for _, first := range []uint32{0, 2, 3, 17, 256, 257, 65537, 1<<24 + 1, 1<<31 + 1, 1<<32 - 1} {
		mustGetNone(t, turned(groupHead, func(e *entry) { e.told = words(first, 1, 6) }))
	}
	mustGetNone(t, more(entry{name: ".group", kind: 17, link: symsHead, info: 4, ent: 4}))
	mustGetNone(t, more(entry{name: ".group", kind: 17, link: symsHead, info: 4, ent: 4, told: words(1)}))
	mustGetNone(t, more(entry{name: ".group", kind: 17, link: symsHead, info: 4, ent: 4, told: []byte{1}}))
}

// P8.1: the members of a group: sections' headers; those of Type 4 are left out; no others.
func TestMembersThatAreGot(t *testing.T) {
	of := func(l ...uint32) []byte {
		return turned(groupHead, func(e *entry) { e.told = append(words(1), words(l...)...) })
	}
	for _, l := range [][]uint32{
		{1, 6}, {1, 6, 8}, {1, 8, 6}, {8, 1, 6}, {8, 9, 1, 9, 8, 8, 6, 9}, {9, 1, 6}, slices.Concat([]uint32{1}, slices.Repeat([]uint32{9}, 100), []uint32{6}),
	} {
		mustGet(t, of(l...), rich())
	}
	for _, l := range [][]uint32{
		{}, {8}, {8, 9}, {6, 1}, {6, 8, 1}, {1, 1, 6}, {1, 6, 6}, {1, 8, 1, 6}, {1}, {6}, {1, 3, 6}, {1, 2, 6}, {1, 6, 7},
		{0, 1, 6}, {1, 6, 0}, {1, 6, 10}, {1, 6, 11}, {1, 6, 12}, {1, 6, 13}, {1, 6, 14}, {1, 6, 15}, {1, 6, 16}, {1, 6, 17}, {1, 6, 255}, {1, 6, 256 + 8},
		{1, 6, 65536 + 8}, {1, 6, 1 << 31}, {1, 6, 1<<31 + 8}, {1, 6, 1<<32 - 1}, {257, 6}, {1, 6 + 1<<31},
	} {
		mustGetNone(t, of(l...))
	}
	// Twice the same, and a group of its own of a section that has no group yet.
	mustGetNone(t, more(entry{name: ".group", kind: 17, link: symsHead, info: 4, ent: 4, told: words(1, 3)}))
	mustGetNone(t, more(entry{name: ".group", kind: 17, link: symsHead, info: 4, ent: 4, told: words(1, 2)}))
	l := append(entries(rich()), entry{name: ".group", kind: 17, link: symsHead, info: 8, ent: 4, told: words(1, 2, 9, 7)})
	l[dataHead-1].flags |= api.Grouped
	l[commentHead-1].flags |= api.Grouped
	mustGet(t, file(l), changed(func(o *api.Obj) {
		o.Secs[1].Flags |= api.Grouped
		o.Secs[6].Flags |= api.Grouped
		o.Groups = append(o.Groups, api.Group{Sym: 8, Members: []int{2, 7}})
	}))
	l[len(l)-1].told = words(1, 2)
	mustGetNone(t, file(l)) // Grouped without a group
}

// P8.1: Sig's header: at most one, of the symbols, and numbers to its end.
func TestSigHeader(t *testing.T) {
	one := entry{name: ".llvm_addrsig", kind: sigType, link: symsHead}
	mustGetNone(t, more(one))
	mustGetNone(t, more(one, one))
	none := slices.Delete(entries(changed(func(o *api.Obj) { o.Groups[1].Sym = 7 })), sigHead-1, sigHead)
	for i := range none {
		if none[i].link >= symsHead {
			none[i].link--
		}
	}
	mustGet(t, file(none), changed(func(o *api.Obj) { o.HasSig, o.Sig = false, nil }))
	for n := range uint64(20) {
		b := turned(sigHead, func(e *entry) { e.link = n })
		if n == symsHead {
			mustGet(t, b, rich())
		} else {
			mustGetNone(t, b)
		}
	}
	for _, c := range []struct {
		told []byte
		want []int
	}{
		{nil, nil}, {[]byte{0}, []int{0}}, {[]byte{8}, []int{8}}, {[]byte{8, 8, 0, 8}, []int{8, 8, 0, 8}},
		{[]byte{132, 0}, []int{4}}, {[]byte{132, 128, 128, 128, 0}, []int{4}}, {[]byte{1, 135, 0, 2}, []int{1, 7, 2}},
	} {
		mustGet(t, turned(sigHead, func(e *entry) { e.told = c.told }), changed(func(o *api.Obj) { o.Sig = c.want }))
	}
	for _, told := range [][]byte{
		{9}, {4, 9}, {127}, {128, 1}, {132, 1}, {132}, {4, 132}, {132, 128, 128, 128, 128, 0}, {255, 255, 255, 255, 7}, {132, 128, 128, 128, 16}, {128, 128, 128, 128, 8},
	} {
		mustGetNone(t, turned(sigHead, func(e *entry) { e.told = told }))
	}
}

// P8.1: two headers of Sig: the second one isn't taken, whatever each one tells.
func TestTwoSigHeaders(t *testing.T) {
	for _, first := range [][]byte{nil, {0}, {1, 2}} {
		for _, second := range [][]byte{nil, {0}, {1, 2}} {
			l := entries(rich())
			l[sigHead-1].told = first
			mustGetNone(t, file(append(l, entry{name: "sig", kind: sigType, link: symsHead, told: second})))
		}
	}
}
