package obj

import (
	"fishplate/api"
	"fishplate/rela"
	"fishplate/strtab"
)

const (
	allFlags   = api.Write | api.Alloc | api.Exec | api.Merge | api.Strings | api.Order | api.Grouped | api.Retain
	maxSymType = 3
)

// mayButSize tells whether o may be, but for how many bytes it has.
func mayButSize(o api.Obj) bool {
	return len(o.Secs) <= api.MaxSecs && maySyms(o) && mayGroups(o) && maySecs(o) && maySig(o)
}

// maySyms tells whether o's symbols may be, and stand in their order.
func maySyms(o api.Obj) bool {
	if len(o.Syms) < 1 || len(o.Syms) > api.MaxSyms || o.Syms[0] != (api.Sym{}) {
		return false
	}
	locals := true
	for _, s := range o.Syms[1:] {
		if s.Bind == api.Local && !locals {
			return false
		}
		locals = s.Bind == api.Local
		if !maySym(s) || !mayValue(s, o.Secs) {
			return false
		}
	}
	return true
}

// maySym tells whether s may be, but for where it is.
func maySym(s api.Sym) bool {
	if s.Bind != api.Local && s.Name == "" {
		return false
	}
	return strtab.May(s.Name) &&
		within(s.Bind, api.Local, api.Weak) &&
		within(s.Type, 0, maxSymType) &&
		isPlace(s.Size)
}

// mayValue tells whether s may be where it is.
func mayValue(s api.Sym, secs []api.Sec) bool {
	switch {
	case !within(s.Sec, -1, len(secs)) || !isPlace(s.Value):
		return false
	case s.Sec == 0:
		return s.Bind != api.Local && s.Value == 0
	case s.Sec > 0:
		return s.Value <= secs[s.Sec-1].Size
	}
	return true
}

// mayGroups tells whether o's groups may be, and whether just their members are Grouped.
func mayGroups(o api.Obj) bool {
	grouped := make([]bool, len(o.Secs))
	for _, g := range o.Groups {
		if !within(g.Sym, 1, len(o.Syms)-1) || len(g.Members) == 0 {
			return false
		}
		last := 0
		for _, n := range g.Members {
			if !within(n, last+1, len(o.Secs)) || grouped[n-1] {
				return false
			}
			grouped[n-1] = true
			last = n
		}
	}
	for i, s := range o.Secs {
		if has(s, api.Grouped) != grouped[i] {
			return false
		}
	}
	return true
}

// maySecs tells whether o's sections may be, but for Grouped.
func maySecs(o api.Obj) bool {
	for i, s := range o.Secs {
		if !maySec(s) || !mayLink(s, i+1, len(o.Secs)) || !mayRels(s, len(o.Syms)) {
			return false
		}
	}
	return true
}

// maySec tells whether s may be, as far as it tells nothing of other sections and of symbols.
func maySec(s api.Sec) bool {
	return strtab.May(s.Name) &&
		s.Flags&^allFlags == 0 &&
		within(s.Align, 1, api.MaxAlign) && s.Align&(s.Align-1) == 0 &&
		mayType(s) &&
		mayMerge(s)
}

// mayType tells whether s has what its Type asks for.
func mayType(s api.Sec) bool {
	switch s.Type {
	case api.ProgBits:
		return s.Size == len(s.Data) && s.Size <= api.MaxObj && !(has(s, api.Write) && has(s, api.Exec))
	case api.NoBits:
		return len(s.Data) == 0 && isPlace(s.Size) && has(s, api.Write) && !has(s, api.Exec) && !has(s, api.Merge)
	}
	return false
}

// mayMerge tells whether s, of an Align that may be, has what Merge, or that it isn't there, asks for.
func mayMerge(s api.Sec) bool {
	if !has(s, api.Merge) {
		return s.Ent == 0 && !has(s, api.Strings)
	}
	if has(s, api.Write) || has(s, api.Exec) || len(s.Rels) > 0 {
		return false
	}
	if has(s, api.Strings) {
		return s.Ent == 1 && s.Align == 1 && (len(s.Data) == 0 || s.Data[len(s.Data)-1] == 0)
	}
	switch s.Ent {
	case 4, 8, 16:
		return s.Align <= s.Ent && s.Size%s.Ent == 0
	}
	return false
}

// mayLink tells whether s, the section of a number among so many, may have its Link.
func mayLink(s api.Sec, number, many int) bool {
	if !has(s, api.Order) {
		return s.Link == 0
	}
	return within(s.Link, 1, many) && s.Link != number
}

// mayRels tells whether s, beside so many symbols, may have its relocations.
func mayRels(s api.Sec, syms int) bool {
	if len(s.Rels) > api.MaxRels {
		return false
	}
	end := 0
	for _, r := range s.Rels {
		width := rela.Width(r.Type)
		if width == 0 || !within(r.Sym, 0, syms-1) || !within(r.Off, end, len(s.Data)-width) {
			return false
		}
		end = r.Off + width
	}
	return true
}

// maySig tells whether o may have its Sig.
func maySig(o api.Obj) bool {
	if !o.HasSig {
		return len(o.Sig) == 0
	}
	for _, n := range o.Sig {
		if !within(n, 0, len(o.Syms)-1) {
			return false
		}
	}
	return true
}

// has tells whether s has a flag.
func has(s api.Sec, flag int) bool { return s.Flags&flag != 0 }

// within tells whether n is least to most.
func within(n, least, most int) bool { return n >= least && n <= most }

// isPlace tells whether n is 0 to the greatest that a place may be.
func isPlace(n int) bool { return within(n, 0, api.MaxAddr) }
