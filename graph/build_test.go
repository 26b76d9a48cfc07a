package graph_test

import (
	"fmt"
	"slices"
	"strings"
	"testing"

	"fishplate/api"
)

// P12.1: the document's example.
func TestASectionOfOneRelToItself(t *testing.T) {
	l := list(object(secs(code("", pc(0, 1, -4))), global("f", 1, 0)))
	mustBuild(t, l, "f", made(0, 0, all(name("f", 0, 0)), node(l, 0, 1, true, edge(0, 0, 0, -4))))
}

// P12.1: one object of one section, in full.
func TestOneNodeInFull(t *testing.T) {
	for _, kind := range []int{api.RPC32, api.RPLT32, api.R32, api.R32S, api.R64} {
		for _, add := range []int{0, -4, 1 << 40, -1 << 63, 1<<63 - 1} {
			s := api.Sec{Name: ".text.f", Type: api.ProgBits, Flags: api.Alloc | api.Exec | api.Retain, Align: 64, Size: 13, Data: []byte("0123456789abc"), Rels: []api.Rel{{Off: 5, Type: kind, Sym: 2, Add: add}}}
			l := list(object(secs(s), local("l", 1, 4), global("f", 1, 7)))
			want := api.Graph{
				Nodes: []api.Node{{
					Obj: 0, Sec: 1, Pos: 0, Name: ".text.f", Type: api.ProgBits, Flags: api.Alloc | api.Exec | api.Retain, Align: 64, Ent: 0, Size: 13, Data: []byte("0123456789abc"),
					Edges: []api.Edge{{Off: 5, Type: kind, Add: add, To: 0, At: 7}}, Unique: true, Group: 0, Link: 0,
				}},
				To: 0, At: 7, Names: []api.Name{{Name: "f", To: 0, At: 7}},
			}
			mustBuild(t, l, "f", want)
		}
	}
}

// ordinary tells two objects that ask for each other's names.
func ordinary() []api.Obj {
	first := object(secs(
		code("0123456789ab", pc(0, 4, -4), pc(4, 2, 3), pc(8, 5, 0)),
		filled(".data", api.Alloc|api.Write, 8, "01234567", word(0, 1, 9)),
		comment("not laid"),
		zeros(70000),
		texts("hello\x00\x00you\x00"),
	), local("here", 2, 3), local("msg", 5, 7), global("main", 1, 2), asked("helper"), hoped("nobody"), weak("space", 4, 69999), global("limit", -1, 300))
	second := object(secs(
		code("abcdef", pc(1, 2, -4)),
		entries(8, "0123456789abcdef"),
	), local("eight", 2, 8), asked("limit"), global("helper", 1, 5), weak("main", 1, 0), hoped("space"))
	return list(first, second)
}

// P12.1: two ordinary objects, by hand.
func TestOrdinaryObjects(t *testing.T) {
	l := ordinary()
	nodes := []api.Node{
		node(l, 0, 1, true, edge(0, 6, 5, -4), edge(4, 5, 0, 3), edge(8, -1, 0, 0)),
		node(l, 0, 2, true, api.Edge{Off: 0, Type: api.R64, Add: 9, To: 1, At: 3}),
		node(l, 0, 4, true),
		slice(l, 0, 5, 0, 6), slice(l, 0, 5, 6, 1), slice(l, 0, 5, 7, 4),
		node(l, 1, 1, true, edge(1, -1, 300, -4)),
		slice(l, 1, 2, 0, 8), slice(l, 1, 2, 8, 8),
	}
	defined := all(name("helper", 6, 5), name("main", 0, 2), name("space", 2, 69999))
	mustBuild(t, l, "main", made(0, 2, defined, nodes...))
	mustBuild(t, l, "helper", made(6, 5, defined, nodes...))
	mustBuild(t, l, "space", made(2, 69999, defined, nodes...))
	for _, entry := range []string{"limit", "nobody", "here", "msg", "eight", "", ".text", "mai", "main\x00", "mainn", "Main", "\xff"} {
		mustFail(t, api.ErrEntry, entry, l...)
	}
	// The second one ahead of the first: its own Weak main is still no definition.
	l[0], l[1] = l[1], l[0]
	mustBuild(t, l, "main", made(3, 2, all(name("helper", 0, 5), name("main", 3, 2), name("space", 5, 69999)),
		node(l, 0, 1, true, edge(1, -1, 300, -4)),
		slice(l, 0, 2, 0, 8), slice(l, 0, 2, 8, 8),
		node(l, 1, 1, true, edge(0, 0, 5, -4), edge(4, 8, 0, 3), edge(8, -1, 0, 0)),
		node(l, 1, 2, true, api.Edge{Off: 0, Type: api.R64, Add: 9, To: 4, At: 3}),
		node(l, 1, 4, true),
		slice(l, 1, 5, 0, 6), slice(l, 1, 5, 6, 1), slice(l, 1, 5, 7, 4),
	))
}

// P12.1: eight objects, each of which goes to the next one and to the one ahead of it.
func TestEightObjects(t *testing.T) {
	var l []api.Obj
	var want api.Graph
	for o := range 8 {
		next, last := fmt.Sprint("f", (o+1)%8), fmt.Sprint("f", (o+7)%8)
		own := fmt.Sprint("f", o)
		l = append(l, object(secs(code("", pc(2, 4, o), pc(6, 3, -o), pc(10, 1, 0)), comment("x"), zeros(o)), local("l", 3, o), global(own, 1, o), asked(last), asked(next)))
		want.Names = append(want.Names, name(own, 2*o, o))
		want.Nodes = append(want.Nodes,
			node(l, o, 1, true, edge(2, 2*((o+1)%8), (o+1)%8, o), edge(6, 2*((o+7)%8), (o+7)%8, -o), edge(10, 2*o+1, o, 0)),
			node(l, o, 3, true))
	}
	for o := range 8 {
		want.To, want.At = 2*o, o
		mustBuild(t, l, fmt.Sprint("f", o), want)
	}
	mustFail(t, api.ErrArg, "f0", append(l, object(nil))...)
}

// P12.1: no object, and objects without nodes: no entry can be.
func TestNoNodes(t *testing.T) {
	for _, entry := range []string{"", "f", "\x00", strings.Repeat("f", 1000)} {
		mustFail(t, api.ErrEntry, entry)
		mustFail(t, api.ErrEntry, entry, []api.Obj{}...)
		mustFail(t, api.ErrEntry, entry, object(nil))
		mustFail(t, api.ErrEntry, entry, object(nil), object(secs(comment("x"))), object(nil, global("f", -1, 5)))
	}
}

// P12.1: an object without sections, and one of the zero symbol alone, among others.
func TestObjectsWithoutSections(t *testing.T) {
	l := list(object(nil), object(nil, global("n", -1, 9), asked("f"), hoped("w")), object(secs(code("", pc(0, 1, 0), pc(4, 2, 0))), asked("n"), global("f", 1, 3)), object(nil))
	mustBuild(t, l, "f", made(0, 3, all(name("f", 0, 3)), node(l, 2, 1, true, edge(0, -1, 9, 0), edge(4, 0, 3, 0))))
}

// P12.1: each of a section's own numbers, one at a time, stands in each of its nodes, as the section tells it.
func TestWhatANodeTellsOfItsSection(t *testing.T) {
	wide := func(flags int) []api.Sec {
		return secs(filled("", flags, 1, "ab"), filled("\xff", flags, 4096, "ab"), filled(strings.Repeat("n", 32), flags, 2, ""))
	}
	all := wide(api.Alloc)
	for _, flags := range []int{api.Write, api.Exec, api.Retain, api.Write | api.Retain, api.Exec | api.Retain} {
		all = append(all, wide(api.Alloc|flags)...)
	}
	for _, flags := range []int{0, api.Retain} {
		s := zeros(5)
		s.Flags |= flags
		all = append(all, s)
	}
	for _, ent := range []int{4, 8, 16} {
		for align := 1; align <= ent; align *= 2 {
			s := entries(ent, strings.Repeat("0123456789abcdef", 2))
			s.Align, s.Name = align, fmt.Sprint(".cst", ent)
			all = append(all, s)
		}
	}
	s := texts("one\x00two\x00")
	s.Flags |= api.Retain
	all = append(all, s)
	for _, s := range all {
		o := object(secs(code("x"), s), global("f", 1, 0))
		mustBeObjects(t, o)
		g := hold(t, list(o), "f")
		if len(g.Nodes) < 2 {
			t.Errorf("%+v has no nodes", s)
		}
		for _, n := range g.Nodes[1:] {
			if n.Name != s.Name || n.Type != s.Type || n.Flags != s.Flags || n.Align != s.Align || n.Ent != s.Ent || n.Link != 0 || n.Group != 0 || n.Sec != 2 {
				t.Errorf("%+v has a node %+v", s, n)
			}
		}
	}
}

// P12.1: names rise, byte by byte, wherever their symbols stand; each one once.
func TestNamesRise(t *testing.T) {
	rising := []string{"\x01", "A", "_", "a", "a\x01", "aa", "ab", "b", "\x7f", "\x80", "\xc3\xa4", "\xff", "\xff\xff"}
	for turn := range rising {
		turned := append(slices.Clone(rising[turn:]), rising[:turn]...)
		var l []api.Obj
		for from := 0; from < len(turned); from += 5 {
			o := object(secs(code("0123456789abcdef"), zeros(20)), local("a", 1, 1))
			for i, s := range turned[from:min(from+5, len(turned))] {
				o.Syms = append(o.Syms, global(s, 1+i%2, from+i), weak(s, 2, 19))
			}
			l = append(l, o)
		}
		g := hold(t, l, "_")
		for i, n := range g.Names {
			at := slices.Index(turned, rising[i])
			if n != name(rising[i], at/5*2+at%5%2, at) {
				t.Errorf("name %d of %q is %+v", i, turned, n)
			}
		}
		if len(g.Names) != len(rising) {
			t.Errorf("of %q there are told %+v", turned, g.Names)
		}
	}
}

// P12.1: Weak definitions, Global ones ahead of them, and behind them, in one object and in several.
func TestWhichDefinition(t *testing.T) {
	o := func(syms ...api.Sym) api.Obj { return object(secs(code("0123", pc(0, 1, 0)), zeros(9)), syms...) }
	for i, c := range []struct {
		l      []api.Obj
		to, at int
	}{
		{list(o(weak("x", 1, 1))), 0, 1},
		{list(o(weak("x", 1, 1), weak("x", 1, 2))), 0, 1},
		{list(o(weak("x", 1, 1), global("x", 1, 2))), 0, 2},
		{list(o(global("x", 2, 1), weak("x", 1, 2))), 1, 1},
		{list(o(weak("x", 1, 1)), o(global("x", 2, 2))), 3, 2},
		{list(o(weak("x", 2, 1)), o(weak("x", 1, 2))), 1, 1},
		{list(o(hoped("x")), o(weak("x", 1, 2)), o(asked("x"))), 2, 2},
		{list(o(asked("x")), o(weak("x", 1, 2)), o(global("x", 2, 7))), 5, 7},
	} {
		g := hold(t, c.l, "x")
		if g.To != c.to || g.At != c.at || !slices.Equal(g.Names, all(name("x", c.to, c.at))) {
			t.Errorf("%d: %+v", i, g)
		}
		for n := 0; n < len(g.Nodes); n += 2 {
			if !slices.Equal(g.Nodes[n].Edges, []api.Edge{edge(0, c.to, c.at, 0)}) {
				t.Errorf("%d: node %d has %+v", i, n, g.Nodes[n].Edges)
			}
		}
	}
}
