package graph_test

import (
	"slices"
	"strings"
	"testing"

	"fishplate/api"
)

// asking tells an object whose second section has a place to which its first one's Rels go, by a Local and by a Global symbol.
func asking(s api.Sec, at int) api.Obj {
	return object(secs(code("", pc(0, 1, -4), word(4, 3, 7)), s), local("l", 2, at), global("main", 1, 0), global("there", 2, at))
}

// mustStand holds where a place of a section is: as what Rels go to, as the entry, and as a name.
func mustStand(t *testing.T, s api.Sec, at, to, in int) {
	t.Helper()
	o := asking(s, at)
	mustBeObjects(t, o)
	names := all(name("main", 0, 0), name("there", to, in))
	for _, entry := range []struct {
		name   string
		to, at int
	}{{"main", 0, 0}, {"there", to, in}} {
		g := hold(t, list(o), entry.name)
		if g.To != entry.to || g.At != entry.at || !slices.Equal(g.Names, names) {
			t.Errorf("%d of %+v: the entry %q is %d in %d, names are %+v", at, s, entry.name, g.At, g.To, g.Names)
		}
		if !slices.Equal(g.Nodes[0].Edges, []api.Edge{edge(0, to, in, -4), {Off: 4, Type: api.R64, Add: 7, To: to, At: in}}) {
			t.Errorf("%d of %+v: edges are %+v", at, s, g.Nodes[0].Edges)
		}
	}
	// Behind an object of three nodes all stand three further.
	l := list(object(secs(texts("\x00\x00"), comment("x"), zeros(1))), o)
	g := hold(t, l, "there")
	if g.To != to+3 || g.At != in || g.Nodes[3].Edges[0] != edge(0, to+3, in, -4) || g.Names[1] != name("there", to+3, in) {
		t.Errorf("%d of %+v, behind three nodes: %+v", at, s, g)
	}
}

// mustBeNowhere holds that a place of a section isn't in a node.
func mustBeNowhere(t *testing.T, s api.Sec, at int) {
	t.Helper()
	o := asking(s, at)
	mustBeObjects(t, o)
	mustFail(t, api.ErrReloc, "main", o)
	mustFail(t, api.ErrReloc, "there", o)
	for i := range 2 {
		one := asking(s, at)
		one.Secs[0].Rels = one.Secs[0].Rels[i : i+1]
		mustFail(t, api.ErrReloc, "main", one)
	}
	o.Secs[0].Rels = nil
	mustFail(t, api.ErrEntry, "there", o)
	l := list(o)
	mustBuild(t, l, "main", made(0, 0, all(name("main", 0, 0)), node(l, 0, 1, true)))
}

// P12.1: places in sections without Merge: at each byte, and just behind the last one.
func TestPlacesInWholeSections(t *testing.T) {
	for _, s := range []api.Sec{filled(".ro", api.Alloc, 1, "abc"), filled(".data", api.Alloc|api.Write, 1, "abc"), filled(".text.g", api.Alloc|api.Exec, 1, "abc"), zeros(3), filled(".nul", api.Alloc, 1, "a\x00\x00")} {
		for at := range 4 {
			mustStand(t, s, at, 1, at)
		}
	}
	mustStand(t, filled(".empty", api.Alloc, 1, ""), 0, 1, 0)
	mustStand(t, zeros(0), 0, 1, 0)
	for _, at := range []int{0, 1, 4096, api.MaxAddr - 1, api.MaxAddr} {
		mustStand(t, zeros(api.MaxAddr), at, 1, at)
	}
}

// P12.1: places in strings: at each first byte, each last one, and just behind the last one of all.
func TestPlacesInStrings(t *testing.T) {
	for i, at := range [][2]int{{1, 0}, {1, 1}, {1, 2}, {2, 0}, {3, 0}, {3, 1}, {3, 2}} {
		mustStand(t, texts("ab\x00\x00c\x00"), i, at[0], at[1])
	}
	for i, at := range [][2]int{{1, 0}, {1, 1}} {
		mustStand(t, texts("\x00"), i, at[0], at[1])
	}
	for i, at := range [][2]int{{1, 0}, {1, 1}, {1, 2}, {1, 3}, {1, 4}} {
		mustStand(t, texts("one\x00"), i, at[0], at[1])
	}
	for i, at := range [][2]int{{1, 0}, {2, 0}, {3, 0}, {3, 1}} {
		mustStand(t, texts("\x00\x00\x00"), i, at[0], at[1])
	}
}

// P12.1: places in entries: at each first byte, each last one, and just behind the last one of all.
func TestPlacesInEntries(t *testing.T) {
	for _, ent := range []int{4, 8, 16} {
		for many := 1; many <= 4; many++ {
			s := entries(ent, strings.Repeat("01\x0034567\x009abcdef", 4)[:ent*many])
			for at := range s.Size {
				mustStand(t, s, at, 1+at/ent, at%ent)
			}
			mustStand(t, s, s.Size, many, ent)
		}
	}
}

// P12.1: places that aren't in a node: ErrReloc of a Rel, ErrEntry of the entry, and no name.
func TestPlacesThatAreInNoNode(t *testing.T) {
	unlaid := func(s api.Sec) api.Sec {
		s.Flags &^= api.Alloc
		return s
	}
	for at := range 4 {
		mustBeNowhere(t, comment("abc"), at)
		mustBeNowhere(t, unlaid(texts("ab\x00")), at)
		mustBeNowhere(t, unlaid(zeros(3)), at)
		mustBeNowhere(t, filled(".note", api.Retain, 1, "abc"), at)
	}
	mustBeNowhere(t, comment(""), 0)
	mustBeNowhere(t, unlaid(zeros(0)), 0)
	mustBeNowhere(t, unlaid(entries(4, "0123")), 4)
	for _, s := range []api.Sec{texts(""), entries(4, ""), entries(8, ""), entries(16, ""), unlaid(texts(""))} {
		mustBeNowhere(t, s, 0)
	}
}

// P12.1: a place behind a section's end: such an object may not be.
func TestPlacesBehindTheEnd(t *testing.T) {
	for _, s := range []api.Sec{filled(".ro", api.Alloc, 1, "abc"), zeros(3), texts("ab\x00"), comment("abc")} {
		for _, at := range []int{4, 5, 1 << 20, api.MaxAddr, api.MaxAddr + 1, -1} {
			mustFail(t, api.ErrArg, "main", asking(s, at))
		}
	}
	mustFail(t, api.ErrArg, "main", asking(entries(4, "0123"), 5))
	mustFail(t, api.ErrArg, "main", asking(texts(""), 1))
}

// P12.1: a section that has no nodes beside one that has, of the same kind; all numbers count on behind it.
func TestSectionsWithoutNodesAmongOthers(t *testing.T) {
	o := object(secs(texts(""), code("ab", pc(2, 2, 0)), comment("x"), entries(8, ""), texts("a\x00b\x00"), zeros(0)), local("l", 5, 3), global("z", 6, 0), weak("e", 1, 0), weak("f", 4, 0), weak("main", 2, 1))
	l := list(o)
	mustBuild(t, l, "main", made(0, 1, all(name("main", 0, 1), name("z", 3, 0)),
		node(l, 0, 2, true, edge(2, 3, 0, 0)), slice(l, 0, 5, 0, 2), slice(l, 0, 5, 2, 2), node(l, 0, 6, true)))
	for _, entry := range []string{"e", "f", "l"} {
		mustFail(t, api.ErrEntry, entry, o)
	}
}

// P12.1: numbers: what a Rel goes to by a symbol that is absolute, by symbol 0, and by a Weak one that nobody defines; they are no names, and no entry.
func TestNumbers(t *testing.T) {
	for _, v := range []int{0, 1, 300, 65521, api.MaxAddr - 1, api.MaxAddr} {
		first := object(secs(code("", pc(0, 0, 1), pc(4, 1, 2), pc(8, 2, 3), pc(12, 3, 4), word(16, 4, 5), pc(24, 5, 6), pc(28, 6, 7))),
			local("l", -1, v), global("g", -1, v), weak("w", -1, v), hoped("nobody"), asked("there"), global("main", 1, 0))
		l := list(first, object(secs(zeros(1)), local("nobody", 1, 1), local("l", 1, 1), weak("g", 1, 1), weak("w", 1, 1), global("there", -1, v)))
		mustBuild(t, l, "main", made(0, 0, all(name("main", 0, 0)),
			node(l, 0, 1, true, edge(0, -1, 0, 1), edge(4, -1, v, 2), edge(8, -1, v, 3), edge(12, -1, v, 4), api.Edge{Off: 16, Type: api.R64, Add: 5, To: -1}, edge(24, -1, v, 6), edge(28, 0, 0, 7)),
			node(l, 1, 1, true)))
		for _, entry := range []string{"l", "g", "w", "nobody", "there", ""} {
			mustFail(t, api.ErrEntry, entry, l...)
		}
	}
}

// P12.1: an absolute symbol of a number that is also a place's is a number; a place 0 is a place.
func TestNumbersThatLookLikePlaces(t *testing.T) {
	l := list(object(secs(code("", pc(0, 1, 0), pc(4, 2, 0), pc(8, 3, 0))), local("a", -1, 0), local("b", 1, 0), global("main", 1, 0)))
	mustBuild(t, l, "main", made(0, 0, all(name("main", 0, 0)), node(l, 0, 1, true, edge(0, -1, 0, 0), edge(4, 0, 0, 0), edge(8, 0, 0, 0))))
}

// P12.1: many edges of a node stand in their order, also several to one place.
func TestAsManyEdgesAsMayBe(t *testing.T) {
	var rels []api.Rel
	var edges []api.Edge
	for i := range api.MaxRels {
		rels = append(rels, pc(4*i, 1+i%3, i*i-40))
		edges = append(edges, []api.Edge{edge(4*i, 2, 1, i*i-40), edge(4*i, 0, 2, i*i-40), edge(4*i, -1, 3, i*i-40)}[i%3])
	}
	l := list(object(secs(code("", rels...), texts("a\x00bc\x00")), local("x", 2, 3), local("y", 1, 2), local("z", -1, 3), global("main", 1, 0)))
	mustBuild(t, l, "main", made(0, 0, all(name("main", 0, 0)), node(l, 0, 1, true, edges...), slice(l, 0, 2, 0, 2), slice(l, 0, 2, 2, 3)))
}
