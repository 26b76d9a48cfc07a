package obj

import (
	"fishplate/api"
	"fishplate/ehdr"
	"fishplate/le"
	"fishplate/rela"
	"fishplate/shdr"
	"fishplate/strtab"
	"fishplate/sym"
	"fishplate/uleb"
)

// file is the bytes of an object, and what its section headers tell.
type file struct {
	b     []byte
	heads []shdr.Head
	names []string
	secs  []int // of each header the number of the section that it is; 0: it is none
	syms  int   // which header is the symbols'
}

// read tells the object whose bytes b is, if it may be; it hasn't been asked yet whether it may.
func read(b []byte) (api.Obj, bool) {
	f := file{b: b}
	var o api.Obj
	if !f.readHeads() || !f.readSecs(&o) || !f.readSyms(&o) {
		return api.Obj{}, false
	}
	// Relocations lie in sections, and groups name them: so all of these are known here.
	named := make([]bool, len(f.heads))
	for _, h := range f.heads {
		ok := true
		switch h.Type {
		case typeRels:
			ok = f.readRels(h, &o, named)
		case typeGroup:
			ok = f.readGroup(h, &o)
		case typeSig:
			ok = f.readSig(h, &o)
		}
		if !ok {
			return api.Obj{}, false
		}
	}
	return o, true
}

// readHeads reads the section headers and their names; false, if one of them may not be by itself.
func (f *file) readHeads() bool {
	if len(f.b) > api.MaxObj {
		return false
	}
	first, ok := ehdr.Get(f.b)
	if !ok {
		return false
	}
	for i := range first.Many {
		h, ok := shdr.Get(f.b, first.At+headSize*i)
		if !ok || !f.mayHead(h, i) {
			return false
		}
		f.heads = append(f.heads, h)
	}
	return f.isType(first.Names, typeNames) && f.readNames(f.told(f.heads[first.Names]))
}

// mayHead tells whether h, the header of a number, may be by itself.
func (f *file) mayHead(h shdr.Head, number int) bool {
	if number == 0 {
		return h == shdr.Head{}
	}
	switch h.Type {
	case api.NoBits:
		return h.Addr == 0
	case api.ProgBits, typeSyms, typeNames, typeRels, typeGroup, typeSig:
		return h.Addr == 0 && h.Off+h.Size <= len(f.b)
	}
	return false
}

// readNames reads the headers' names, which stand in table. (The zero header's isn't asked.)
func (f *file) readNames(table []byte) bool {
	f.names = []string{""}
	for _, h := range f.heads[1:] {
		name, ok := strtab.At(table, h.Name)
		if !ok {
			return false
		}
		f.names = append(f.names, name)
	}
	return true
}

// readSecs reads the sections, but for their relocations.
func (f *file) readSecs(o *api.Obj) bool {
	many := 0
	f.secs = make([]int, len(f.heads))
	for i, h := range f.heads {
		if h.Type == api.ProgBits || h.Type == api.NoBits {
			many++
			f.secs[i] = many
		}
	}
	for i, h := range f.heads {
		if f.secs[i] == 0 {
			continue
		}
		s, ok := f.sec(h)
		if !ok {
			return false
		}
		s.Name = f.names[i]
		o.Secs = append(o.Secs, s)
	}
	return true
}

// sec tells the section of a header, but for its name and its relocations.
func (f *file) sec(h shdr.Head) (api.Sec, bool) {
	s := api.Sec{Type: h.Type, Flags: h.Flags, Align: max(h.Align, 1), Ent: h.Ent, Size: h.Size}
	if h.Type == api.ProgBits {
		s.Data = append(s.Data, f.told(h)...)
	}
	if h.Info != 0 {
		return api.Sec{}, false
	}
	if h.Flags&api.Order == 0 {
		return s, h.Link == 0
	}
	s.Link = f.sectionOf(h.Link)
	return s, s.Link != 0
}

// readSyms reads the symbols, of the one header that is theirs.
func (f *file) readSyms(o *api.Obj) bool {
	many := 0
	for i, h := range f.heads {
		if h.Type == typeSyms {
			many++
			f.syms = i
		}
	}
	h := f.heads[f.syms]
	if many != 1 || !isListOf(h, entrySize) || !f.isType(h.Link, typeNames) {
		return false
	}
	names := f.told(f.heads[h.Link])
	locals := 0
	for at := h.Off; at < h.Off+h.Size; at += entrySize {
		s, ok := f.sym(at, names)
		if !ok {
			return false
		}
		if s.Bind == api.Local {
			locals++
		}
		o.Syms = append(o.Syms, s)
	}
	return locals == h.Info
}

// sym tells the symbol from at on, whose name stands in names.
func (f *file) sym(at int, names []byte) (api.Sym, bool) {
	e, ok := sym.Get(f.b, at)
	if !ok {
		return api.Sym{}, false
	}
	name, ok := strtab.At(names, e.Name)
	if !ok {
		return api.Sym{}, false
	}
	s := api.Sym{Name: name, Bind: e.Bind, Type: e.Type, Value: e.Value, Size: e.Size}
	switch e.Index {
	case 0:
		return s, true
	case absolute:
		s.Sec = -1
		return s, true
	}
	s.Sec = f.sectionOf(e.Index)
	return s, s.Sec != 0
}

// readRels reads the relocations of h's section; named tells of which headers some were read.
func (f *file) readRels(h shdr.Head, o *api.Obj, named []bool) bool {
	if !isListOf(h, entrySize) || h.Link != f.syms || !f.isType(h.Info, api.ProgBits) || named[h.Info] {
		return false
	}
	named[h.Info] = true
	s := &o.Secs[f.secs[h.Info]-1]
	for at := h.Off; at < h.Off+h.Size; at += entrySize {
		r, ok := rela.Get(f.b, at)
		if !ok {
			return false
		}
		s.Rels = append(s.Rels, r)
	}
	return true
}

// readGroup reads the group of h.
func (f *file) readGroup(h shdr.Head, o *api.Obj) bool {
	if !isListOf(h, wordSize) || h.Link != f.syms || h.Size == 0 || f.word(h.Off) != onlyOne {
		return false
	}
	g := api.Group{Sym: h.Info}
	for at := h.Off + wordSize; at < h.Off+h.Size; at += wordSize {
		n := f.word(at)
		if f.isType(n, typeRels) {
			continue
		}
		member := f.sectionOf(n)
		if member == 0 {
			return false
		}
		g.Members = append(g.Members, member)
	}
	o.Groups = append(o.Groups, g)
	return true
}

// readSig reads the Sig of h, ahead of which none may be.
func (f *file) readSig(h shdr.Head, o *api.Obj) bool {
	if o.HasSig || h.Link != f.syms {
		return false
	}
	o.HasSig = true
	var ok bool
	o.Sig, ok = uleb.List(f.told(h))
	return ok
}

// told tells the bytes that h tells, which isn't of NoBits.
func (f *file) told(h shdr.Head) []byte { return f.b[h.Off : h.Off+h.Size] }

// word tells the four bytes from at on, which b has.
func (f *file) word(at int) int {
	v, _ := le.Get(f.b, at, wordSize)
	return int(v)
}

// isType tells whether header n is there, and of a Type.
func (f *file) isType(n, kind int) bool { return n < len(f.heads) && f.heads[n].Type == kind }

// sectionOf tells the number of the section that header n is; 0, if it is none.
func (f *file) sectionOf(n int) int {
	if n >= len(f.secs) {
		return 0
	}
	return f.secs[n]
}

// isListOf tells whether h tells entries of so many bytes.
func isListOf(h shdr.Head, size int) bool { return h.Ent == size && h.Size%size == 0 }
