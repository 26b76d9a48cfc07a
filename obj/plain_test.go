package obj_test

import (
	"bytes"
	"encoding/binary"
	"errors"
	"reflect"
	"slices"
	"testing"

	"fishplate/api"
	"fishplate/obj"
)

// sigType is the Type of Sig's header.
const sigType = 1879002115

// entry is a section header, by what it tells, all numbers as they shall stand; 'off' is told where it is laid, and 'size' by what it tells, if they are 0.
type entry struct {
	name                                                 string
	kind, flags, addr, off, size, link, info, align, ent uint64
	told                                                 []byte
}

// words tells numbers of four bytes each.
func words(l ...uint32) []byte {
	var b []byte
	for _, n := range l {
		b = binary.LittleEndian.AppendUint32(b, n)
	}
	return b
}

// symbol tells a symbol's 24 bytes.
func symbol(name uint32, both byte, index uint16, value, size uint64) []byte {
	b := binary.LittleEndian.AppendUint32(nil, name)
	b = append(b, both, 0)
	b = binary.LittleEndian.AppendUint16(b, index)
	b = binary.LittleEndian.AppendUint64(b, value)
	return binary.LittleEndian.AppendUint64(b, size)
}

// relocation tells a relocation's 24 bytes.
func relocation(off uint64, kind, by uint32, add int64) []byte {
	b := binary.LittleEndian.AppendUint64(nil, off)
	b = append(b, words(kind, by)...)
	return binary.LittleEndian.AppendUint64(b, uint64(add))
}

// headerBytes tells an object's first 64 bytes.
func headerBytes(at, many, names int) []byte {
	b := []byte{127, 69, 76, 70, 2, 1, 1, 0, 0, 0, 0, 0, 0, 0, 0, 0, 1, 0, 62, 0, 1, 0, 0, 0}
	b = append(b, make([]byte, 16)...)
	b = binary.LittleEndian.AppendUint64(b, uint64(at))
	b = append(b, 0, 0, 0, 0, 64, 0, 0, 0, 0, 0, 64, 0)
	b = binary.LittleEndian.AppendUint16(b, uint16(many))
	return binary.LittleEndian.AppendUint16(b, uint16(names))
}

// sectionHeader tells the 64 bytes of a section header.
func sectionHeader(name int, e entry) []byte {
	b := words(uint32(name), uint32(e.kind))
	for _, n := range []uint64{e.flags, e.addr, e.off, e.size} {
		b = binary.LittleEndian.AppendUint64(b, n)
	}
	b = append(b, words(uint32(e.link), uint32(e.info))...)
	b = binary.LittleEndian.AppendUint64(b, e.align)
	return binary.LittleEndian.AppendUint64(b, e.ent)
}

// table tells a table of names, and where they are.
func table(l []string) ([]byte, []int) {
	b := []byte{0}
	var at []int
	for i, s := range l {
		switch k := slices.Index(l, s); {
		case s == "":
			at = append(at, 0)
		case k < i:
			at = append(at, at[k])
		default:
			at = append(at, len(b))
			b = append(append(b, s...), 0)
		}
	}
	return b, at
}

// namesHeader tells the number of the header that is of names: that of Type 3 without bytes told.
func namesHeader(l []entry) int {
	return 1 + slices.IndexFunc(l, func(e entry) bool { return e.kind == 3 && e.told == nil })
}

// file tells the bytes of section headers, the zero one ahead of them, behind all that they tell.
func file(l []entry) []byte { return fileWith(l, nil, false) }

// fileWith tells the bytes of section headers, behind all that they tell, or ahead of it, and with bytes ahead of each thing told.
func fileWith(l []entry, gap []byte, headsAhead bool) []byte {
	l = slices.Clone(l)
	var names []string
	for _, e := range l {
		names = append(names, e.name)
	}
	own := namesHeader(l)
	told, at := table(names)
	l[own-1].told = told
	begin := 64
	if headsAhead {
		begin += 64 * (len(l) + 1)
	}
	var body, heads []byte
	heads = make([]byte, 64)
	for i, e := range l {
		body = append(body, gap...)
		if e.off == 0 {
			e.off = uint64(begin + len(body))
		}
		if e.size == 0 {
			e.size = uint64(len(e.told))
		}
		heads = append(heads, sectionHeader(at[i], e)...)
		body = append(body, e.told...)
	}
	if headsAhead {
		return slices.Concat(headerBytes(64, len(l)+1, own), heads, body)
	}
	return slices.Concat(headerBytes(64+len(body), len(l)+1, own), body, heads)
}

// entries tells the section headers of an object, written as the chapter tells them.
func entries(o api.Obj) []entry {
	var secs, rels, others []entry
	for i, s := range o.Secs {
		secs = append(secs, entry{
			name: s.Name, kind: uint64(s.Type), flags: uint64(s.Flags), size: uint64(s.Size),
			link: uint64(s.Link), align: uint64(s.Align), ent: uint64(s.Ent), told: s.Data,
		})
		var told []byte
		for _, r := range s.Rels {
			told = append(told, relocation(uint64(r.Off), uint32(r.Type), uint32(r.Sym), int64(r.Add))...)
		}
		if len(s.Rels) > 0 {
			rels = append(rels, entry{name: ".rela", kind: 4, info: uint64(i + 1), align: 8, ent: 24, told: told})
		}
	}
	for _, g := range o.Groups {
		told := words(1)
		for _, n := range g.Members {
			told = append(told, words(uint32(n))...)
		}
		others = append(others, entry{name: ".group", kind: 17, info: uint64(g.Sym), align: 4, ent: 4, told: told})
	}
	if o.HasSig {
		var told []byte
		for _, n := range o.Sig {
			told = append(told, byte(n)) // of symbols' numbers none has two digits
		}
		others = append(others, entry{name: ".llvm_addrsig", kind: sigType, align: 1, told: told})
	}
	l := slices.Concat(secs, rels, others)
	number := uint64(len(l) + 1)
	for i := len(secs); i < len(l); i++ {
		l[i].link = number
	}
	return append(l, symbolEntries(o.Syms, number)...)
}

// symbolEntries tells the last three section headers of an object.
func symbolEntries(l []api.Sym, number uint64) []entry {
	var names []string
	locals := uint64(0)
	for _, s := range l {
		names = append(names, s.Name)
		if s.Bind == api.Local {
			locals++
		}
	}
	texts, at := table(names)
	var told []byte
	for i, s := range l {
		index := uint16(s.Sec)
		if s.Sec == -1 {
			index = 65521
		}
		told = append(told, symbol(uint32(at[i]), byte(16*s.Bind+s.Type), index, uint64(s.Value), uint64(s.Size))...)
	}
	return []entry{
		{name: ".symtab", kind: 2, link: number + 1, info: locals, align: 8, ent: 24, told: told},
		{name: ".strtab", kind: 3, align: 1, told: texts},
		{name: ".shstrtab", kind: 3, align: 1},
	}
}

// bare tells o with nil for each list of no elements, and each list in new memory.
func bare(o api.Obj) api.Obj {
	o.Secs = slices.Clone(o.Secs)
	for i := range o.Secs {
		o.Secs[i].Data = list(o.Secs[i].Data)
		o.Secs[i].Rels = list(o.Secs[i].Rels)
	}
	o.Groups = slices.Clone(o.Groups)
	for i := range o.Groups {
		o.Groups[i].Members = list(o.Groups[i].Members)
	}
	o.Secs, o.Syms, o.Groups, o.Sig = list(o.Secs), list(o.Syms), list(o.Groups), list(o.Sig)
	return o
}

// list tells l in new memory; nil, if it has no elements.
func list[E any](l []E) []E { return append([]E(nil), l...) }

// same tells whether two objects are one, lists of no elements told either way.
func same(a, b api.Obj) bool { return reflect.DeepEqual(bare(a), bare(b)) }

// mustMay holds May and Put against an object that may be, and Get against its bytes: P8.1, P8.3.
func mustMay(t *testing.T, o api.Obj) {
	t.Helper()
	if !obj.May(o) {
		t.Errorf("May tells false of %+v", o)
	}
	want := file(entries(o))
	b, err := obj.Put(o)
	if err != nil || !bytes.Equal(b, want) {
		t.Errorf("Put(%+v) = %v, %v; want %v", o, b, err, want)
	}
	mustGet(t, want, o)
}

// mustMayNot holds May and Put against an object that may not be: P8.1.
func mustMayNot(t *testing.T, o api.Obj) {
	t.Helper()
	if obj.May(o) {
		t.Errorf("May tells true of %+v", o)
	}
	if b, err := obj.Put(o); len(b) != 0 || err == nil || !errors.Is(err, api.ErrArg) {
		t.Errorf("Put(%+v) = %v, %v; want ErrArg", o, b, err)
	}
}

// mustGet holds what Get tells against an object: P8.1.
func mustGet(t *testing.T, b []byte, want api.Obj) {
	t.Helper()
	if o, err := obj.Get(b); err != nil || !same(o, want) {
		t.Errorf("Get(%v) = %+v, %v; want %+v", b, o, err, want)
	}
}

// mustGetNone holds what Get tells against ErrForm: P8.1.
func mustGetNone(t *testing.T, b []byte) {
	t.Helper()
	if o, err := obj.Get(b); err == nil || !errors.Is(err, api.ErrForm) || !reflect.DeepEqual(o, api.Obj{}) {
		t.Errorf("Get(%v) = %+v, %v; want ErrForm", b, o, err)
	}
}

// checkBytes holds Get of any bytes against the plain reading of the chapter, and P8.3.
func checkBytes(t *testing.T, b []byte) {
	t.Helper()
	want, ok := readPlainly(b)
	if !ok {
		mustGetNone(t, b)
		return
	}
	mustGet(t, b, want)
	if put, err := obj.Put(want); err == nil {
		mustGet(t, put, want)
	}
}

// must ends a plain reading, which tells false then.
func must(ok bool) {
	if !ok {
		panic("it may not be")
	}
}

// number tells the n bytes from at on.
func number(b []byte, at, n int) int {
	var v uint64
	for k := range n {
		v |= uint64(b[at+k]) << (8 * k)
	}
	return int(v)
}

// text tells the name at a place of a table.
func text(b []byte, at int) string {
	must(at < len(b))
	n := bytes.IndexByte(b[at:], 0)
	must(n >= 0 && n <= 32)
	return string(b[at : at+n])
}

// readPlainly tells what P8.1 says of bytes, sentence by sentence, slowly.
func readPlainly(b []byte) (o api.Obj, ok bool) {
	defer func() {
		if recover() != nil {
			o, ok = api.Obj{}, false
		}
	}()
	must(len(b) >= 64 && len(b) <= 16384)
	at, many, own := number(b, 40, 8), number(b, 60, 2), number(b, 62, 2)
	must(bytes.Equal(b[:64], headerBytes(at, many, own)))
	must(at >= 0 && at <= 16384 && own >= 1 && own < many && at+64*many <= len(b))
	var l []entry
	for i := range many {
		h := b[at+64*i : at+64*i+64]
		e := entry{
			kind: uint64(number(h, 4, 4)), flags: uint64(number(h, 8, 8)), addr: uint64(number(h, 16, 8)),
			off: uint64(number(h, 24, 8)), size: uint64(number(h, 32, 8)), link: uint64(number(h, 40, 4)),
			info: uint64(number(h, 44, 4)), align: uint64(number(h, 48, 8)), ent: uint64(number(h, 56, 8)),
		}
		for _, n := range []uint64{uint64(number(h, 0, 4)), e.kind, e.flags, e.addr, e.off, e.size, e.link, e.info, e.align, e.ent} {
			must(n <= 2147483647)
		}
		if i == 0 {
			must(bytes.Equal(h, make([]byte, 64)))
		} else {
			must(e.addr == 0 && slices.Contains([]uint64{1, 8, 2, 3, 4, 17, sigType}, e.kind))
			if e.kind != 8 {
				must(e.off+e.size <= uint64(len(b)))
				e.told = b[e.off : e.off+e.size]
			}
		}
		l = append(l, e)
	}
	must(l[own].kind == 3)
	for i := range l[1:] {
		l[i+1].name = text(l[own].told, number(b, at+64*(i+1), 4))
	}
	o = readEntries(l)
	mayPlainly(o)
	return o, true
}

// readEntries tells the object of section headers, of which number 0 is the zero one.
func readEntries(l []entry) api.Obj {
	var o api.Obj
	secs := map[int]int{}
	table := 0
	for i, e := range l {
		switch e.kind {
		case 1, 8:
			secs[i] = len(secs) + 1
		case 2:
			must(table == 0)
			table = i
		}
	}
	must(table != 0)
	readSymbols(l, table, secs, &o)
	rels := map[int][]api.Rel{}
	for _, e := range l {
		switch e.kind {
		case 4:
			_, twice := rels[int(e.info)]
			must(e.ent == 24 && e.size%24 == 0 && int(e.link) == table && l[e.info].kind == 1 && !twice)
			rels[int(e.info)] = readRelocations(e.told)
		case 17:
			must(e.ent == 4 && e.size%4 == 0 && e.size >= 4 && int(e.link) == table && number(e.told, 0, 4) == 1)
			g := api.Group{Sym: int(e.info)}
			for at := 4; at < len(e.told); at += 4 {
				n := number(e.told, at, 4)
				must(secs[n] != 0 || n < len(l) && l[n].kind == 4)
				if secs[n] != 0 {
					g.Members = append(g.Members, secs[n])
				}
			}
			o.Groups = append(o.Groups, g)
		case sigType:
			must(!o.HasSig && int(e.link) == table)
			o.HasSig = true
			o.Sig = readNumbers(e.told)
		}
	}
	for i, e := range l {
		if secs[i] == 0 {
			continue
		}
		s := api.Sec{
			Name: e.name, Type: int(e.kind), Flags: int(e.flags), Align: int(e.align), Ent: int(e.ent),
			Size: int(e.size), Data: list(e.told), Rels: rels[i],
		}
		must(e.info == 0)
		if s.Align == 0 {
			s.Align = 1
		}
		if s.Flags/128%2 == 1 {
			s.Link = secs[int(e.link)]
			must(s.Link != 0)
		} else {
			must(e.link == 0)
		}
		o.Secs = append(o.Secs, s)
	}
	return o
}

// readSymbols reads the symbols of header number n.
func readSymbols(l []entry, n int, secs map[int]int, o *api.Obj) {
	e := l[n]
	must(e.ent == 24 && e.size%24 == 0 && l[e.link].kind == 3)
	locals := 0
	for at := 0; at < len(e.told); at += 24 {
		b := e.told[at : at+24]
		s := api.Sym{Name: text(l[e.link].told, number(b, 0, 4)), Bind: int(b[4] / 16), Type: int(b[4] % 16), Value: number(b, 8, 8), Size: number(b, 16, 8)}
		must(b[5] == 0)
		index := number(b, 6, 2)
		switch {
		case index == 65521:
			s.Sec = -1
		case index != 0:
			s.Sec = secs[index]
			must(s.Sec != 0)
		}
		if s.Bind == 0 {
			locals++
		}
		o.Syms = append(o.Syms, s)
	}
	must(locals == int(e.info))
}

// readRelocations tells the relocations of some bytes.
func readRelocations(b []byte) []api.Rel {
	l := []api.Rel{}
	for ; len(b) > 0; b = b[24:] {
		l = append(l, api.Rel{Off: number(b, 0, 8), Type: number(b, 8, 4), Sym: number(b, 12, 4), Add: number(b, 16, 8)})
	}
	return l
}

// readNumbers tells the numbers, by digits of seven bits, of some bytes.
func readNumbers(b []byte) []int {
	var l []int
	for len(b) > 0 {
		end := slices.IndexFunc(b, func(c byte) bool { return c < 128 })
		must(end >= 0 && end < 5)
		n := 0
		for k := range end + 1 {
			n += int(b[k]%128) << (7 * k)
		}
		must(n <= 2147483647)
		l = append(l, n)
		b = b[end+1:]
	}
	return l
}

// mayPlainly holds an object against the chapter, sentence by sentence, but for how many bytes it has.
func mayPlainly(o api.Obj) {
	must(len(o.Secs) <= 32 && len(o.Syms) >= 1 && len(o.Syms) <= 128 && o.Syms[0] == api.Sym{})
	member := map[int]int{}
	for _, g := range o.Groups {
		must(g.Sym > 0 && g.Sym < len(o.Syms) && len(g.Members) > 0 && slices.IsSorted(g.Members))
		for _, n := range g.Members {
			member[n]++
			must(n >= 1 && n <= len(o.Secs) && member[n] == 1)
		}
	}
	for _, n := range o.Sig {
		must(o.HasSig && n >= 0 && n < len(o.Syms))
	}
	for i, s := range o.Secs {
		flag := func(n int) bool { return s.Flags/n%2 == 1 }
		must(len(s.Name) <= 32 && s.Flags >= 0 && s.Flags|0x2002b7 == 0x2002b7)
		must(slices.Contains([]int{1, 2, 4, 8, 16, 32, 64, 128, 256, 512, 1024, 2048, 4096}, s.Align))
		must(!flag(1) || !flag(4))
		must(s.Type == 1 && s.Size == len(s.Data) || s.Type == 8 && len(s.Data) == 0 && s.Size >= 0 && s.Size <= 2147483647 && flag(1) && !flag(16))
		must(flag(512) == (member[i+1] == 1))
		if flag(16) {
			must(!flag(1) && !flag(4) && len(s.Rels) == 0)
			if flag(32) {
				must(s.Ent == 1 && s.Align == 1 && (len(s.Data) == 0 || s.Data[len(s.Data)-1] == 0))
			} else {
				must((s.Ent == 4 || s.Ent == 8 || s.Ent == 16) && s.Align <= s.Ent && s.Size%s.Ent == 0)
			}
		} else {
			must(s.Ent == 0 && !flag(32))
		}
		must(s.Link == 0 && !flag(128) || s.Link >= 1 && s.Link <= len(o.Secs) && s.Link != i+1 && flag(128))
		must(len(s.Rels) <= 64)
		end := 0
		for _, r := range s.Rels {
			width := map[int]int{1: 8, 2: 4, 4: 4, 10: 4, 11: 4}[r.Type]
			must(width > 0 && r.Off >= end && r.Off <= 16384 && r.Off+width <= len(s.Data) && r.Sym >= 0 && r.Sym < len(o.Syms))
			end = r.Off + width
		}
	}
	mayBeSymbols(o)
}

// mayBeSymbols holds the symbols of an object, but for the first one, against the chapter.
func mayBeSymbols(o api.Obj) {
	locals := true
	for _, s := range o.Syms[1:] {
		must(s.Bind >= 0 && s.Bind <= 2 && s.Type >= 0 && s.Type <= 3 && s.Size >= 0 && s.Size <= 2147483647)
		must(len(s.Name) <= 32 && s.Sec >= -1 && s.Sec <= len(o.Secs) && s.Value >= 0 && s.Value <= 2147483647)
		must(s.Bind == 0 || s.Name != "")
		must(s.Bind != 0 || s.Sec != 0 && locals)
		if s.Bind != 0 {
			locals = false
		}
		must(s.Sec != 0 || s.Value == 0)
		must(s.Sec < 1 || s.Value <= o.Secs[s.Sec-1].Size)
	}
}
