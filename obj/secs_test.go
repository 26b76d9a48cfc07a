package obj_test

import (
	"bytes"
	"math"
	"slices"
	"strings"
	"testing"

	"fishplate/api"
	"fishplate/obj"
)

// rich tells an object that has something of all: sections of both Types, merged ones of each kind, Order, groups, Sig, relocations of each Type, symbols of each Bind at each kind of place.
func rich() api.Obj {
	return api.Obj{
		Secs: []api.Sec{
			{Name: ".text.f", Type: api.ProgBits, Flags: api.Alloc | api.Exec | api.Grouped, Align: 16, Size: 12, Data: []byte{232, 0, 0, 0, 0, 195, 7, 0, 0, 0, 0, 8}, Rels: []api.Rel{
				{Off: 1, Type: api.RPLT32, Sym: 5, Add: -4},
				{Off: 7, Type: api.RPC32, Sym: 2, Add: -4},
			}},
			{Name: ".data", Type: api.ProgBits, Flags: api.Alloc | api.Write | api.Retain, Align: 8, Size: 16, Data: []byte{1, 2, 3, 4, 5, 6, 7, 8, 9, 10, 11, 12, 13, 14, 15, 16}, Rels: []api.Rel{
				{Off: 0, Type: api.R64, Sym: 6, Add: 513},
				{Off: 8, Type: api.R32, Sym: 0, Add: math.MinInt},
				{Off: 12, Type: api.R32S, Sym: 6, Add: math.MaxInt},
			}},
			{Name: ".bss", Type: api.NoBits, Flags: api.Alloc | api.Write | api.Grouped, Align: 4096, Size: 70000},
			{Name: ".rodata.str", Type: api.ProgBits, Flags: api.Alloc | api.Merge | api.Strings, Align: 1, Ent: 1, Size: 6, Data: []byte("abc\x00d\x00")},
			{Name: ".rodata.cst8", Type: api.ProgBits, Flags: api.Alloc | api.Merge, Align: 4, Ent: 8, Size: 16, Data: []byte("0123456789abcdef")},
			{Name: ".meta", Type: api.ProgBits, Flags: api.Alloc | api.Order | api.Grouped, Align: 2, Link: 1, Size: 1, Data: []byte{99}},
			{Name: ".comment", Type: api.ProgBits, Align: 1},
		},
		Syms: []api.Sym{
			{},
			{Name: "", Bind: api.Local, Type: 3, Sec: 1},
			{Name: "local", Bind: api.Local, Type: 1, Sec: 4, Value: 4, Size: 2},
			{Name: "number", Bind: api.Local, Sec: -1, Value: 2147483647, Size: 2147483647},
			{Name: "f", Bind: api.Global, Type: 2, Sec: 1, Value: 12, Size: 6},
			{Name: "there", Bind: api.Global},
			{Name: "perhaps", Bind: api.Weak, Type: 3},
			{Name: "zeros", Bind: api.Weak, Type: 1, Sec: 3, Value: 70000},
			{Name: "f", Bind: api.Global, Sec: -1},
		},
		Groups: []api.Group{{Sym: 4, Members: []int{1, 6}}, {Sym: 7, Members: []int{3}}},
		HasSig: true,
		Sig:    []int{4, 7, 4},
	}
}

// changed tells the rich object with a change.
func changed(change func(o *api.Obj)) api.Obj {
	o := rich()
	change(&o)
	return o
}

// with tells an object of some sections, and a symbol in the first one.
func with(secs ...api.Sec) api.Obj {
	return api.Obj{Secs: secs, Syms: []api.Sym{{}, {Name: "s", Bind: api.Global, Sec: 1}}}
}

// data tells a section of so many bytes.
func data(n int) api.Sec {
	s := api.Sec{Name: ".data", Type: api.ProgBits, Flags: api.Alloc | api.Write, Align: 1, Size: n, Data: make([]byte, n)}
	for i := range s.Data {
		s.Data[i] = byte(i + 1)
	}
	return s
}

// zeros tells a section without bytes, of a Size.
func zeros(n int) api.Sec {
	return api.Sec{Name: ".bss", Type: api.NoBits, Flags: api.Alloc | api.Write, Align: 1, Size: n}
}

// merged tells a section of Merge, of entries of so many bytes.
func merged(ent int, text string) api.Sec {
	return api.Sec{Name: ".rodata", Type: api.ProgBits, Flags: api.Alloc | api.Merge, Align: 1, Ent: ent, Size: len(text), Data: []byte(text)}
}

// texts tells a section of Merge with Strings.
func texts(text string) api.Sec {
	s := merged(1, text)
	s.Flags |= api.Strings
	return s
}

// far are numbers that may be nowhere but as what is added.
func far() []int {
	return []int{
		math.MinInt, math.MinInt + 1, math.MinInt + 8, -1 << 32, -1<<32 + 1, -2147483649, -2147483648, -65521, -65536, -4096, -2, -1,
		2147483648, 2147483649, 1<<32 - 1, 1 << 32, 1<<32 + 1, 1<<32 + 2, 1<<32 + 8, 1 << 40, 1 << 62, math.MaxInt - 8, math.MaxInt - 1, math.MaxInt,
	}
}

// hold holds an object against whether it may be.
func hold(t *testing.T, may bool, o api.Obj) {
	t.Helper()
	if may {
		mustMay(t, o)
	} else {
		mustMayNot(t, o)
	}
}

// P8.1: the rich object, and ordinary smaller ones.
func TestOrdinaryObjects(t *testing.T) {
	mustMay(t, rich())
	mustMay(t, with(data(8)))
	mustMay(t, with(zeros(8)))
	mustMay(t, with(texts("a\x00bc\x00")))
	for _, ent := range []int{4, 8, 16} {
		mustMay(t, with(merged(ent, "0123456789abcdef0123456789abcdef")))
	}
	mustMay(t, api.Obj{Syms: []api.Sym{{}}, HasSig: true})
	mustMay(t, api.Obj{Syms: []api.Sym{{}}, HasSig: true, Sig: []int{0}})
	mustMay(t, api.Obj{Syms: []api.Sym{{}, {Name: "u", Bind: api.Global}, {Name: "w", Bind: api.Weak}, {Name: "a", Bind: api.Global, Sec: -1, Value: 5}}})
}

// P8.1: the document's own example, all bytes by hand.
func TestTheExample(t *testing.T) {
	o := api.Obj{Syms: []api.Sym{{}}}
	want := slices.Concat(
		[]byte{127, 69, 76, 70, 2, 1, 1, 0, 0, 0, 0, 0, 0, 0, 0, 0, 1, 0, 62, 0, 1, 0, 0, 0},
		make([]byte, 16), []byte{116, 0, 0, 0, 0, 0, 0, 0}, []byte{0, 0, 0, 0, 64, 0, 0, 0, 0, 0, 64, 0, 4, 0, 3, 0},
		make([]byte, 24), []byte{0}, []byte("\x00.symtab\x00.strtab\x00.shstrtab\x00"),
		make([]byte, 64),
		[]byte{1, 0, 0, 0, 2, 0, 0, 0}, make([]byte, 16), []byte{64, 0, 0, 0, 0, 0, 0, 0, 24, 0, 0, 0, 0, 0, 0, 0},
		[]byte{2, 0, 0, 0, 1, 0, 0, 0, 8, 0, 0, 0, 0, 0, 0, 0, 24, 0, 0, 0, 0, 0, 0, 0},
		[]byte{9, 0, 0, 0, 3, 0, 0, 0}, make([]byte, 16), []byte{88, 0, 0, 0, 0, 0, 0, 0, 1, 0, 0, 0, 0, 0, 0, 0},
		[]byte{0, 0, 0, 0, 0, 0, 0, 0, 1, 0, 0, 0, 0, 0, 0, 0, 0, 0, 0, 0, 0, 0, 0, 0},
		[]byte{17, 0, 0, 0, 3, 0, 0, 0}, make([]byte, 16), []byte{89, 0, 0, 0, 0, 0, 0, 0, 27, 0, 0, 0, 0, 0, 0, 0},
		[]byte{0, 0, 0, 0, 0, 0, 0, 0, 1, 0, 0, 0, 0, 0, 0, 0, 0, 0, 0, 0, 0, 0, 0, 0},
	)
	if len(want) != 64+24+1+27+4*64 {
		t.Fatal(len(want))
	}
	if b, err := obj.Put(o); err != nil || !bytes.Equal(b, want) {
		t.Errorf("Put(%+v) = %v, %v; want %v", o, b, err, want)
	}
	mustGet(t, want, o)
}

// P8.1: the rich object's section headers, written by hand: their order, and each of their numbers.
func TestSectionHeadersOfTheRichObject(t *testing.T) {
	b, err := obj.Put(rich())
	if err != nil {
		t.Fatal(err)
	}
	const names = "\x00.text.f\x00.data\x00.bss\x00.rodata.str\x00.rodata.cst8\x00.meta\x00.comment\x00.rela\x00.group\x00.llvm_addrsig\x00.symtab\x00.strtab\x00.shstrtab\x00"
	const symbols = "\x00local\x00number\x00f\x00there\x00perhaps\x00zeros\x00"
	// Name, Type, Flags, Off, Size, Link, Info, Align, Ent.
	want := [][9]int{
		{0, 0, 0, 0, 0, 0, 0, 0, 0},
		{1, 1, 2 + 4 + 512, 64, 12, 0, 0, 16, 0},
		{9, 1, 1 + 2 + 2097152, 76, 16, 0, 0, 8, 0},
		{15, 8, 1 + 2 + 512, 92, 70000, 0, 0, 4096, 0},
		{20, 1, 2 + 16 + 32, 92, 6, 0, 0, 1, 1},
		{32, 1, 2 + 16, 98, 16, 0, 0, 4, 8},
		{45, 1, 2 + 128 + 512, 114, 1, 1, 0, 2, 0},
		{51, 1, 0, 115, 0, 0, 0, 1, 0},
		{60, 4, 0, 115, 48, 13, 1, 8, 24},
		{60, 4, 0, 163, 72, 13, 2, 8, 24},
		{66, 17, 0, 235, 12, 13, 4, 4, 4},
		{66, 17, 0, 247, 8, 13, 7, 4, 4},
		{73, 1879002115, 0, 255, 3, 13, 0, 1, 0},
		{87, 2, 0, 258, 216, 14, 4, 8, 24},
		{95, 3, 0, 474, len(symbols), 0, 0, 1, 0},
		{103, 3, 0, 474 + len(symbols), len(names), 0, 0, 1, 0},
	}
	at := 474 + len(symbols) + len(names)
	if len(b) != at+64*len(want) || !bytes.Equal(b[:64], headerBytes(at, len(want), 15)) {
		t.Fatalf("%d bytes, that begin %v", len(b), b[:64])
	}
	if got := string(b[474:at]); got != symbols+names {
		t.Errorf("names %q; want %q", got, symbols+names)
	}
	if got := b[235:258]; !bytes.Equal(got, slices.Concat(words(1, 1, 6), words(1, 3), []byte{4, 7, 4})) {
		t.Errorf("groups and Sig %v", got)
	}
	for i, w := range want {
		h := b[at+64*i:]
		got := [9]int{number(h, 0, 4), number(h, 4, 4), number(h, 8, 8), number(h, 24, 8), number(h, 32, 8), number(h, 40, 4), number(h, 44, 4), number(h, 48, 8), number(h, 56, 8)}
		if got != w || number(h, 16, 8) != 0 {
			t.Errorf("header %d: %v; want %v", i, got, w)
		}
	}
}

// P8.1: what the rich object's sections, relocations and symbols tell, written by hand.
func TestBytesOfTheRichObject(t *testing.T) {
	b, err := obj.Put(rich())
	if err != nil {
		t.Fatal(err)
	}
	want := slices.Concat(
		[]byte{232, 0, 0, 0, 0, 195, 7, 0, 0, 0, 0, 8}, []byte{1, 2, 3, 4, 5, 6, 7, 8, 9, 10, 11, 12, 13, 14, 15, 16},
		[]byte("abc\x00d\x00"), []byte("0123456789abcdef"), []byte{99},
		[]byte{1, 0, 0, 0, 0, 0, 0, 0, 4, 0, 0, 0, 5, 0, 0, 0, 252, 255, 255, 255, 255, 255, 255, 255},
		[]byte{7, 0, 0, 0, 0, 0, 0, 0, 2, 0, 0, 0, 2, 0, 0, 0, 252, 255, 255, 255, 255, 255, 255, 255},
		[]byte{0, 0, 0, 0, 0, 0, 0, 0, 1, 0, 0, 0, 6, 0, 0, 0, 1, 2, 0, 0, 0, 0, 0, 0},
		[]byte{8, 0, 0, 0, 0, 0, 0, 0, 10, 0, 0, 0, 0, 0, 0, 0, 0, 0, 0, 0, 0, 0, 0, 128},
		[]byte{12, 0, 0, 0, 0, 0, 0, 0, 11, 0, 0, 0, 6, 0, 0, 0, 255, 255, 255, 255, 255, 255, 255, 127},
		[]byte{1, 0, 0, 0, 1, 0, 0, 0, 6, 0, 0, 0}, []byte{1, 0, 0, 0, 3, 0, 0, 0}, []byte{4, 7, 4},
		make([]byte, 24),
		[]byte{0, 0, 0, 0, 3, 0, 1, 0, 0, 0, 0, 0, 0, 0, 0, 0, 0, 0, 0, 0, 0, 0, 0, 0},
		[]byte{1, 0, 0, 0, 1, 0, 4, 0, 4, 0, 0, 0, 0, 0, 0, 0, 2, 0, 0, 0, 0, 0, 0, 0},
		[]byte{7, 0, 0, 0, 0, 0, 241, 255, 255, 255, 255, 127, 0, 0, 0, 0, 255, 255, 255, 127, 0, 0, 0, 0},
		[]byte{14, 0, 0, 0, 18, 0, 1, 0, 12, 0, 0, 0, 0, 0, 0, 0, 6, 0, 0, 0, 0, 0, 0, 0},
		[]byte{16, 0, 0, 0, 16, 0, 0, 0, 0, 0, 0, 0, 0, 0, 0, 0, 0, 0, 0, 0, 0, 0, 0, 0},
		[]byte{22, 0, 0, 0, 35, 0, 0, 0, 0, 0, 0, 0, 0, 0, 0, 0, 0, 0, 0, 0, 0, 0, 0, 0},
		[]byte{30, 0, 0, 0, 33, 0, 3, 0, 112, 17, 1, 0, 0, 0, 0, 0, 0, 0, 0, 0, 0, 0, 0, 0},
		[]byte{14, 0, 0, 0, 16, 0, 241, 255, 0, 0, 0, 0, 0, 0, 0, 0, 0, 0, 0, 0, 0, 0, 0, 0},
	)
	if got := b[64 : 64+len(want)]; !bytes.Equal(got, want) {
		t.Errorf("%v; want %v", got, want)
	}
}

// P8.1: headers' names that are one stand once, also those of a section called like another header.
func TestHeadersOfOneName(t *testing.T) {
	a, b, c := data(1), data(2), data(0)
	a.Name, b.Name, c.Name = ".rela", ".strtab", ""
	mustMay(t, with(a, b, c, a))
	put, _ := obj.Put(with(a, b, c, a))
	if want := "\x00s\x00\x00.rela\x00.strtab\x00.symtab\x00.shstrtab\x00"; !strings.Contains(string(put), want) {
		t.Errorf("%q isn't in %q", want, put)
	}
}

// P8.1: names of sections and of symbols.
func TestNames(t *testing.T) {
	for _, c := range []struct {
		name string
		may  bool
	}{
		{"", true}, {"a", true}, {strings.Repeat("n", 31), true}, {strings.Repeat("n", 32), true}, {strings.Repeat("n", 33), false}, {strings.Repeat("n", 5000), false},
		{"\x00", false}, {"a\x00", false}, {"\x00a", false}, {"a\x00b", false}, {strings.Repeat("n", 31) + "\x00", false}, {strings.Repeat("n", 32) + "\x00", false},
		{"\x01\x7f\x80\xff \n*?/", true}, {strings.Repeat("\xff", 32), true}, {strings.Repeat("\xff", 33), false}, {strings.Repeat("ä", 16), true}, {strings.Repeat("ä", 16) + "n", false},
	} {
		hold(t, c.may, changed(func(o *api.Obj) { o.Secs[1].Name = c.name }))
		hold(t, c.may, changed(func(o *api.Obj) { o.Secs[6].Name = c.name }))
		hold(t, c.may, changed(func(o *api.Obj) { o.Syms[1].Name = c.name }))
		hold(t, c.may && c.name != "", changed(func(o *api.Obj) { o.Syms[4].Name = c.name }))
		hold(t, c.may && c.name != "", changed(func(o *api.Obj) { o.Syms[6].Name = c.name }))
		hold(t, c.may && c.name != "", changed(func(o *api.Obj) { o.Syms[8].Name = c.name }))
	}
	for c := range 256 {
		name := "a" + string([]byte{byte(c)}) + "b"
		hold(t, c != 0, changed(func(o *api.Obj) { o.Secs[0].Name, o.Syms[5].Name = name, name }))
	}
}

// P8.1: Types of sections.
func TestTypesOfSections(t *testing.T) {
	for _, kind := range append(far(), 0, 1, 2, 3, 4, 5, 6, 7, 8, 9, 10, 14, 15, 16, 17, 18, 1879002115, 1<<31-1) {
		s := zeros(0)
		s.Type = kind
		hold(t, kind == 1 || kind == 8, with(s))
		s = data(4)
		s.Type = kind
		hold(t, kind == 1, with(s))
	}
}

// P8.1: Flags, each sum of those that api names, of sections of each kind.
func TestFlags(t *testing.T) {
	names := []int{1, 2, 4, 16, 32, 128, 512, 2097152}
	for sum := range 1 << len(names) {
		flags := 0
		for i, n := range names {
			flags += n * (sum >> i % 2)
		}
		write, exec, merge, text := flags&1 != 0, flags&4 != 0, flags&16 != 0, flags&32 != 0
		ok := !(write && exec) && (merge || !text) && !(merge && (write || exec))
		for _, kind := range []int{1, 8} {
			for _, ent := range []int{0, 1, 8} {
				s := api.Sec{Name: "s", Type: kind, Flags: flags, Align: 1, Ent: ent}
				o := with(s, data(1))
				if flags&128 != 0 {
					o.Secs[0].Link = 2
				}
				if flags&512 != 0 {
					o.Groups = []api.Group{{Sym: 1, Members: []int{1}}}
				}
				fits := ent == 0 && !merge || ent == 1 && text || ent == 8 && merge && !text
				hold(t, ok && fits && (kind == 1 || write && !merge), o)
			}
		}
	}
}

// P8.1: a flag that there is not, and Flags below 0.
func TestFlagsThatAreNone(t *testing.T) {
	names := []int{1, 2, 4, 16, 32, 128, 512, 2097152}
	for i := range 64 {
		if slices.Contains(names, 1<<i) {
			continue
		}
		for k := range rich().Secs {
			mustMayNot(t, changed(func(o *api.Obj) { o.Secs[k].Flags |= 1 << i }))
		}
	}
	for _, flags := range far() {
		for k := range rich().Secs {
			mustMayNot(t, changed(func(o *api.Obj) { o.Secs[k].Flags = flags }))
		}
	}
}

// P8.1: Align, of sections of both Types and of Merge.
func TestAlign(t *testing.T) {
	good := []int{1, 2, 4, 8, 16, 32, 64, 128, 256, 512, 1024, 2048, 4096}
	for _, align := range append(far(), 0, 1, 2, 3, 4, 5, 6, 7, 8, 9, 12, 15, 16, 17, 32, 33, 64, 128, 256, 512, 1000, 1024, 2048, 3072, 4095, 4096, 4097, 6144, 8191, 8192, 1<<30, 2147483647) {
		may := slices.Contains(good, align)
		a, b := data(4), zeros(4)
		a.Align, b.Align = align, align
		hold(t, may, with(a))
		hold(t, may, with(b))
		s := texts("a\x00")
		s.Align = align
		hold(t, align == 1, with(s))
		for _, ent := range []int{4, 8, 16} {
			s := merged(ent, strings.Repeat("0123456789abcdef", 2))
			s.Align = align
			hold(t, may && align <= ent, with(s))
		}
	}
}

// P8.1: Ent, with and without Merge.
func TestEnt(t *testing.T) {
	for _, ent := range append(far(), 0, 1, 2, 3, 4, 5, 6, 7, 8, 9, 12, 15, 16, 17, 20, 24, 32, 48, 64, 2147483647) {
		for _, s := range []api.Sec{data(48), data(0), zeros(48)} {
			s.Ent = ent
			hold(t, ent == 0, with(s))
		}
		s := merged(8, strings.Repeat("x", 48*4))
		s.Ent = ent
		hold(t, ent == 4 || ent == 8 || ent == 16, with(s))
		s = merged(8, "")
		s.Ent = ent
		hold(t, ent == 4 || ent == 8 || ent == 16, with(s))
		s = texts("abc\x00def\x00")
		s.Ent = ent
		hold(t, ent == 1, with(s))
		s = texts("")
		s.Ent = ent
		hold(t, ent == 1, with(s))
	}
	for size := range 50 {
		for _, ent := range []int{4, 8, 16} {
			hold(t, size%ent == 0, with(merged(ent, strings.Repeat("y", size))))
		}
	}
}

// P8.1: Strings, and how Data ends.
func TestStrings(t *testing.T) {
	for text, may := range map[string]bool{
		"": true, "\x00": true, "\x00\x00": true, "a\x00": true, "a\x00\x00bcd\x00": true, strings.Repeat("s", 300) + "\x00": true,
		"a": false, "\x00a": false, "a\x00b": false, "\x00\x00\x01": false, strings.Repeat("s\x00", 300) + "\xff": false,
	} {
		hold(t, may, with(texts(text)))
		for _, flag := range []int{api.Write, api.Exec, api.Write | api.Exec} {
			s := texts(text)
			s.Flags |= flag
			mustMayNot(t, with(s))
		}
		s := texts(text)
		s.Flags -= api.Merge
		mustMayNot(t, with(s))
		s.Ent = 0
		mustMayNot(t, with(s))
	}
}

// P8.1: Size, of both Types; of NoBits there is no Data.
func TestSizes(t *testing.T) {
	for n := range 20 {
		for size := -2; size < 24; size++ {
			s := data(n)
			s.Size = size
			hold(t, size == n, with(s))
		}
		for _, size := range far() {
			s := data(n)
			s.Size = size
			mustMayNot(t, with(s))
		}
		s := zeros(n)
		s.Data = make([]byte, n)
		hold(t, n == 0, with(s))
		s = zeros(0)
		s.Data = make([]byte, n)
		hold(t, n == 0, with(s))
	}
	for _, size := range []int{0, 1, 16384, 16385, 1 << 20, 2147483646, 2147483647} {
		mustMay(t, with(zeros(size)))
	}
	for _, size := range far() {
		mustMayNot(t, with(zeros(size)))
	}
}

// P8.1: Link, with Order and without.
func TestLink(t *testing.T) {
	for _, many := range []int{1, 2, 3, 7, 32} {
		for own := 1; own <= many; own++ {
			for _, link := range append(far(), 0, 1, 2, own-1, own, own+1, many-1, many, many+1, many+2, 33, 34, 2147483647) {
				o := with(slices.Repeat([]api.Sec{zeros(1)}, many)...)
				o.Secs[own-1].Link = link
				hold(t, link == 0, o)
				o.Secs[own-1].Flags |= api.Order
				hold(t, link >= 1 && link <= many && link != own, o)
			}
		}
	}
}
