package graph_test

import (
	"testing"

	"fishplate/api"
)

// fine tells an object without an error, its entry main.
func fine() api.Obj { return object(secs(code("x")), global("main", 1, 0)) }

// group tells an object with the one section of a group "g".
func group(syms ...api.Sym) api.Obj {
	return grouped(object(secs(code("g")), append([]api.Sym{local("g", -1, 0)}, syms...)...), 1, 1)
}

// lost tells an object of which a Rel goes to a Local symbol in a dropped section, if it is behind a group "g".
func lost() api.Obj {
	return grouped(object(secs(code("g"), code("", pc(0, 2, 0))), local("g", -1, 0), local("gone", 1, 0)), 1, 1)
}

// unlaid tells an object of which a Rel goes to a section without Alloc.
func unlaid() api.Obj { return object(secs(comment("abc"), code("", pc(0, 1, 0))), local("c", 1, 1)) }

// P12.1: each error alone.
func TestEachErrorAlone(t *testing.T) {
	l := list(fine())
	mustBuild(t, l, "main", made(0, 0, all(name("main", 0, 0)), node(l, 0, 1, true)))
	bad := fine()
	bad.Secs[0].Align = 3
	mustFail(t, api.ErrArg, "main", bad)
	mustFail(t, api.ErrArg, "main", fine(), bad)
	mustFail(t, api.ErrArg, "main", fine(), api.Obj{})
	mustFail(t, api.ErrDup, "main", fine(), fine())
	mustFail(t, api.ErrUndef, "main", object(secs(code("x")), global("main", 1, 0), asked("nowhere")))
	mustFail(t, api.ErrUndef, "main", fine(), group(), lost())
	mustFail(t, api.ErrReloc, "main", fine(), unlaid())
	mustFail(t, api.ErrEntry, "nowhere", fine())
	nine := list(fine())
	for len(nine) < 9 {
		nine = append(nine, object(nil))
	}
	hold(t, nine[:8], "main")
	mustFail(t, api.ErrArg, "main", nine...)
}

// P12.1: the entry without a definition: nobody's name, a Local one's, one that is asked for alone.
func TestTheEntrysErrors(t *testing.T) {
	o := object(secs(code("xyz"), comment("c"), texts("")), local("l", 1, 0), global("main", 1, 0), hoped("w"), global("n", -1, 0), weak("m", -1, api.MaxAddr), global("c", 2, 0), weak("e", 3, 0))
	hold(t, list(o), "main")
	for _, entry := range []string{"", "l", "w", "n", "m", "c", "e", "nowhere", "\x00", "main ", "MAIN", ".text"} {
		mustFail(t, api.ErrEntry, entry, o)
		mustFail(t, api.ErrEntry, entry, object(nil), o, unasked())
	}
	// Of a dropped section: there the name has no definition, or another one.
	gone := group(weak("f", 1, 0))
	mustFail(t, api.ErrEntry, "f", fine(), group(), gone)
	g := hold(t, list(fine(), group(), gone, object(secs(zeros(4)), weak("f", 1, 3))), "f")
	if g.To != 2 || g.At != 3 {
		t.Errorf("f is %d in %d", g.At, g.To)
	}
}

// unasked tells an object of whose sections none is a node: what their Rels go to isn't asked.
func unasked() api.Obj {
	o := object(secs(comment("", pc(0, 1, 0), pc(4, 2, 0), pc(8, 3, 0)), texts(""), filled(".note", api.Retain, 4, "01234567", word(0, 1, 5))), local("c", 1, 1), local("e", 2, 0), local("n", 3, 8))
	return o
}

// P12.1: an error of an edge in a section that is no node isn't asked: without Alloc, and dropped.
func TestEdgesThatAreNotAsked(t *testing.T) {
	mustBeObjects(t, unasked())
	l := list(unasked(), fine(), unasked())
	mustBuild(t, l, "main", made(0, 0, all(name("main", 0, 0)), node(l, 1, 1, true)))
	// A dropped section goes to itself, to another one that is dropped, and to one that isn't laid.
	gone := grouped(object(secs(code("", pc(0, 2, 0), pc(4, 3, 0), pc(8, 4, 0)), zeros(1), comment("abc")), local("g", -1, 0), local("a", 1, 0), local("b", 2, 1), local("c", 3, 0)), 1, 1, 2)
	l = list(group(), fine(), gone)
	mustBuild(t, l, "main", made(1, 0, all(name("main", 1, 0)), in(1, node(l, 0, 1, true)), node(l, 1, 1, true)))
	// The first one of its group: its edges are asked.
	mustFail(t, api.ErrReloc, "main", gone, fine())
	// A section without Alloc goes to one that is dropped.
	gone = grouped(object(secs(code("g"), comment("", pc(0, 2, 0))), local("g", -1, 0), local("a", 1, 0)), 1, 1)
	l = list(group(), fine(), gone)
	mustBuild(t, l, "main", made(1, 0, all(name("main", 1, 0)), in(1, node(l, 0, 1, true)), node(l, 1, 1, true)))
}

// P12.1: two errors at once: layer 10's ahead of all else, then edges', then the entry's.
func TestTwoErrorsAtOnce(t *testing.T) {
	dup := list(fine(), fine())
	undef := object(nil, asked("nowhere"))
	bad := object(nil, api.Sym{Bind: 3})
	for _, entry := range []string{"main", "nowhere", "c", ""} {
		mustFail(t, api.ErrArg, entry, append(dup, bad)...)
		mustFail(t, api.ErrArg, entry, undef, bad)
		mustFail(t, api.ErrArg, entry, unlaid(), bad)
		mustFail(t, api.ErrArg, entry, group(), lost(), bad)
		mustFail(t, api.ErrArg, entry, bad)
		mustFail(t, api.ErrDup, entry, append(dup, undef)...)
		mustFail(t, api.ErrDup, entry, append(list(unlaid()), dup...)...)
		mustFail(t, api.ErrDup, entry, append(list(group(), lost()), dup...)...)
		mustFail(t, api.ErrDup, entry, dup...)
		mustFail(t, api.ErrUndef, entry, unlaid(), undef)
		mustFail(t, api.ErrUndef, entry, undef)
		mustFail(t, api.ErrUndef, entry, fine(), undef)
		mustFail(t, api.ErrUndef, entry, group(), lost())
		mustFail(t, api.ErrReloc, entry, unlaid())
		mustFail(t, api.ErrReloc, entry, unlaid(), fine())
	}
}

// P12.1: of two edges' errors the first one's, node by node, edge by edge.
func TestTheFirstEdgesError(t *testing.T) {
	mustFail(t, api.ErrUndef, "main", group(), lost(), unlaid())
	mustFail(t, api.ErrReloc, "main", group(), unlaid(), lost())
	mustFail(t, api.ErrReloc, "main", unlaid(), group(), lost())
	first, second := pc(4, 2, 0), pc(8, 3, 0) // to what is dropped, and to what isn't laid
	for _, c := range []struct {
		code    api.Code
		one     []api.Rel
		another []api.Rel
	}{
		{api.ErrUndef, []api.Rel{first, second}, nil},
		{api.ErrReloc, []api.Rel{pc(4, 3, 0), pc(8, 2, 0)}, nil},
		{api.ErrUndef, []api.Rel{pc(0, 4, 0), first}, []api.Rel{second}},
		{api.ErrReloc, []api.Rel{pc(0, 4, 0), second}, []api.Rel{first}},
		{api.ErrUndef, nil, []api.Rel{pc(0, 0, 0), first, second}},
		{api.ErrReloc, nil, []api.Rel{pc(4, 3, 0), pc(12, 2, 0)}},
		{api.ErrUndef, []api.Rel{first}, []api.Rel{second}},
		{0, []api.Rel{pc(0, 4, 0), pc(4, 0, 0)}, []api.Rel{pc(0, 4, 0)}},
	} {
		o := object(secs(code("g"), code("", c.one...), comment("c"), texts("s\x00"), code("", c.another...)), local("g", -1, 0), local("gone", 1, 0), local("c", 3, 0), local("here", 2, 0))
		l := list(group(), grouped(o, 1, 1), fine())
		mustBeObjects(t, l...)
		if c.code != 0 {
			mustFail(t, c.code, "main", l...)
			mustFail(t, c.code, "nowhere", l...)
		} else if g := hold(t, l, "main"); len(g.Nodes) != 5 {
			t.Errorf("%+v", g)
		}
	}
}

// P12.1: Where's errors of Local symbols alone: a Weak one of a dropped section is where its name's definition is, or the number 0.
func TestRelsToSymbolsOfDroppedSections(t *testing.T) {
	gone := grouped(object(secs(code("g"), code("", pc(0, 2, 0), pc(4, 3, 0), pc(8, 4, 0))), local("g", -1, 0), weak("a", 1, 1), weak("b", 1, 1), global("c", 1, 1)), 1, 1)
	l := list(group(weak("a", 1, 0), global("c", 1, 1)), fine(), gone)
	mustBuild(t, l, "main", made(1, 0, all(name("a", 0, 0), name("c", 0, 1), name("main", 1, 0)),
		in(1, node(l, 0, 1, true)), node(l, 1, 1, true), node(l, 2, 2, true, edge(0, 0, 0, 0), edge(4, -1, 0, 0), edge(8, 0, 1, 0))))
	mustFail(t, api.ErrUndef, "main", group(weak("a", 1, 0)), fine(), gone)
}
