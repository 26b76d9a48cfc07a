package obj

import (
	"slices"

	"fishplate/api"
	"fishplate/ehdr"
	"fishplate/le"
	"fishplate/rela"
	"fishplate/shdr"
	"fishplate/strtab"
	"fishplate/sym"
	"fishplate/uleb"
)

// part is a section header, its name, and the bytes that it tells.
// Name and Off of the header hang on all parts; lay tells them.
type part struct {
	name string
	head shdr.Head
	told []byte
}

// newPart tells a part that is no section: its Size is how many bytes it tells.
func newPart(name string, head shdr.Head, told []byte) part {
	head.Size = len(told)
	return part{name, head, told}
}

// parts tells all of o that has a section header, in order, but for the zero one and that of the headers' names.
func parts(o api.Obj) []part {
	secs := secParts(o.Secs)
	others := slices.Concat(relParts(o.Secs), groupParts(o.Groups), sigParts(o))
	syms := 1 + len(secs) + len(others)
	for i := range others {
		others[i].head.Link = syms
	}
	return slices.Concat(secs, others, symParts(o.Syms, syms))
}

// secParts tells the sections. Each one's header has the section's number, so that Link stays as it is.
func secParts(secs []api.Sec) []part {
	var l []part
	for _, s := range secs {
		head := shdr.Head{Type: s.Type, Flags: s.Flags, Size: s.Size, Link: s.Link, Align: s.Align, Ent: s.Ent}
		l = append(l, part{s.Name, head, s.Data})
	}
	return l
}

// relParts tells the relocations, of each section that has some.
func relParts(secs []api.Sec) []part {
	var l []part
	for i, s := range secs {
		var told []byte
		for _, r := range s.Rels {
			told = append(told, rela.Put(r)...)
		}
		if len(told) > 0 {
			l = append(l, newPart(".rela", shdr.Head{Type: typeRels, Info: i + 1, Align: 8, Ent: entrySize}, told))
		}
	}
	return l
}

// groupParts tells the groups.
func groupParts(groups []api.Group) []part {
	var l []part
	for _, g := range groups {
		told := le.Put(onlyOne, wordSize)
		for _, n := range g.Members {
			told = append(told, le.Put(uint64(n), wordSize)...)
		}
		l = append(l, newPart(".group", shdr.Head{Type: typeGroup, Info: g.Sym, Align: 4, Ent: wordSize}, told))
	}
	return l
}

// sigParts tells Sig, if o has it.
func sigParts(o api.Obj) []part {
	if !o.HasSig {
		return nil
	}
	var told []byte
	for _, n := range o.Sig {
		told = append(told, uleb.Put(n)...)
	}
	return []part{newPart(".llvm_addrsig", shdr.Head{Type: typeSig, Align: 1}, told)}
}

// symParts tells the symbols, whose header has a number, and their names.
func symParts(syms []api.Sym, number int) []part {
	var names []string
	for _, s := range syms {
		names = append(names, s.Name)
	}
	table, places := strtab.Make(names)
	var told []byte
	locals := 0
	for i, s := range syms {
		e := sym.Entry{Name: places[i], Bind: s.Bind, Type: s.Type, Index: index(s.Sec), Value: s.Value, Size: s.Size}
		told = append(told, sym.Put(e)...)
		if s.Bind == api.Local {
			locals++
		}
	}
	return []part{
		newPart(".symtab", shdr.Head{Type: typeSyms, Link: number + 1, Info: locals, Align: 8, Ent: entrySize}, told),
		newPart(".strtab", shdr.Head{Type: typeNames, Align: 1}, table),
	}
}

// index tells the Index of a symbol of section n.
func index(n int) int {
	if n < 0 {
		return absolute
	}
	return n
}

// lay tells the bytes of parts, behind which that of the headers' names comes.
func lay(l []part) []byte {
	const own = ".shstrtab"
	var names []string
	for _, p := range l {
		names = append(names, p.name)
	}
	table, places := strtab.Make(append(names, own))
	l = append(l, newPart(own, shdr.Head{Type: typeNames, Align: 1}, table))
	var body []byte
	heads := shdr.Put(shdr.Head{})
	for i, p := range l {
		p.head.Name = places[i]
		p.head.Off = headSize + len(body)
		heads = append(heads, shdr.Put(p.head)...)
		body = append(body, p.told...)
	}
	head := ehdr.Put(ehdr.Head{At: headSize + len(body), Many: 1 + len(l), Names: len(l)})
	return slices.Concat(head, body, heads)
}
