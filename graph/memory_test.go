package graph_test

import (
	"math"
	"reflect"
	"slices"
	"strings"
	"testing"

	"fishplate/api"
	"fishplate/graph"
)

// roomy tells a list in new memory that has room for some more, which are filled, so that it is to be seen whether they get written.
func roomy[T any](l []T, more T) []T {
	if l == nil {
		return nil
	}
	long := append(make([]T, 0, len(l)+3), l...)
	return append(long, more, more, more)[:len(l)]
}

// copied tells objects of which nothing is shared with others.
func copied(l []api.Obj) []api.Obj {
	l = roomy(l, api.Obj{Secs: []api.Sec{{Name: "more"}}})
	for o := range l {
		l[o].Secs = roomy(l[o].Secs, api.Sec{Name: "more"})
		l[o].Syms = roomy(l[o].Syms, global("more", -1, 7))
		l[o].Groups = roomy(l[o].Groups, api.Group{Sym: 7})
		l[o].Sig = roomy(l[o].Sig, 7)
		for i := range l[o].Secs {
			l[o].Secs[i].Data = roomy(l[o].Secs[i].Data, 7)
			l[o].Secs[i].Rels = roomy(l[o].Secs[i].Rels, api.Rel{Off: 7})
		}
		for i := range l[o].Groups {
			l[o].Groups[i].Members = roomy(l[o].Groups[i].Members, 7)
		}
	}
	return l
}

// whole tells all that lists of objects have, also what stands behind their ends.
func whole(l []api.Obj) []any {
	var all []any
	for _, o := range l[:cap(l)] {
		all = append(all, o.Secs[:cap(o.Secs)], o.Syms[:cap(o.Syms)], o.Groups[:cap(o.Groups)], o.Sig[:cap(o.Sig)], o.HasSig)
		for _, s := range o.Secs {
			all = append(all, s.Data[:cap(s.Data)], s.Rels[:cap(s.Rels)])
		}
		for _, g := range o.Groups {
			all = append(all, g.Members[:cap(g.Members)])
		}
	}
	return all
}

// rich tells objects with relocations, groups, Order and Sig beside all else.
func rich() []api.Obj {
	l := ordinary()
	l[0] = signed(l[0], 1, 6, 2)
	l[1].Secs = append(l[1].Secs, ordered(filled(".meta", api.Alloc, 1, "meta"), 1), filled(".data", api.Alloc|api.Write, 4, "", word(0, 1, 8), word(8, 5, -8)))
	l[1] = grouped(l[1], 3, 1, 2)
	return append(l, grouped(object(secs(code("dropped"), code("", pc(1, 2, 0))), local("helper", -1, 0), hoped("main")), 1, 1))
}

// lists are lists of objects, with a graph and with each error; each one's entry is main.
func lists() [][]api.Obj {
	return [][]api.Obj{
		rich(), ordinary(), list(fine()), list(six(), signed(six(), 5), fine()), {}, nil,
		list(object(nil)), append(rich(), fine()), append(rich(), object(nil, asked("nowhere"))),
		append(rich(), unlaid()), list(group(), lost()), append(rich(), api.Obj{}),
	}
}

// R2: nothing that is handed in is changed, also not behind its end.
func TestNothingHandedInIsChanged(t *testing.T) {
	for _, like := range lists() {
		for _, entry := range []string{"main", "nowhere"} {
			l, kept := copied(like), copied(like)
			graph.Build(l, entry)
			if !reflect.DeepEqual(whole(l), whole(kept)) {
				t.Errorf("Build changed %+v to %+v", kept, l)
			}
		}
	}
}

// spoil changes all that a graph has, also behind its lists' ends.
func spoil(g api.Graph) {
	for _, n := range g.Nodes {
		fill(n.Data, 255)
		fill(n.Edges, edge(99, 99, 99, 99))
	}
	fill(g.Nodes, api.Node{Obj: 99, Name: "spoilt"})
	fill(g.Names, name("spoilt", 99, 99))
}

// fill fills a list, also behind its end.
func fill[T any](l []T, with T) {
	l = l[:cap(l)]
	for i := range l {
		l[i] = with
	}
}

// P12.2: a graph that is changed by whoever got it changes no other one, no later one, and no object.
func TestGraphsAreNewMemory(t *testing.T) {
	for _, like := range lists() {
		want, code := plain(like).graph("main")
		if code != 0 {
			continue
		}
		l, kept := copied(like), copied(like)
		first, _ := graph.Build(l, "main")
		second, _ := graph.Build(l, "main")
		spoil(first)
		if !same(second, want) {
			t.Errorf("a graph was changed by another one's change to %+v; want %+v", second, want)
		}
		if !reflect.DeepEqual(whole(l), whole(kept)) {
			t.Errorf("objects were changed by their graph's change, %+v to %+v", kept, l)
		}
		if third := hold(t, l, "main"); !same(third, want) {
			t.Errorf("a later graph is %+v; want %+v", third, want)
		}
		for _, o := range l {
			for _, s := range o.Secs {
				fill(s.Data, 254)
				fill(s.Rels, api.Rel{Off: 9})
			}
			fill(o.Secs, api.Sec{Name: "gone"})
			fill(o.Syms, api.Sym{Name: "gone"})
		}
		if !same(second, want) {
			t.Errorf("a graph was changed by its objects' change to %+v; want %+v", second, want)
		}
	}
}

// P12.2: no two lists of a graph share any memory, also not behind their ends.
func TestListsOfAGraphShareNothing(t *testing.T) {
	for _, l := range [][]api.Obj{rich(), ordinary(), list(six(), six(), fine())} {
		want, _ := plain(l).graph("main")
		for i := range want.Nodes {
			got, _ := graph.Build(l, "main")
			own := got.Nodes[i]
			fill(own.Data, 255)
			fill(own.Edges, edge(99, 99, 99, 99))
			got.Nodes[i] = want.Nodes[i]
			if !same(got, want) {
				t.Errorf("node %d shares memory: %+v; want %+v", i, got, want)
			}
			got.Nodes[i] = own
			for range 9 {
				own.Data, own.Edges = append(own.Data, 255), append(own.Edges, edge(99, 99, 99, 99))
			}
			got.Nodes[i] = want.Nodes[i]
			if !same(got, want) {
				t.Errorf("a longer node %d shares memory: %+v; want %+v", i, got, want)
			}
		}
	}
}

// P12.1: whoever asks again is told the same, and nothing is kept from others' objects.
func TestAskedAgain(t *testing.T) {
	for range 3 {
		for _, l := range lists() {
			for _, entry := range []string{"main", "helper", "nowhere", ""} {
				hold(t, l, entry)
				first, firstErr := graph.Build(l, entry)
				second, secondErr := graph.Build(copied(l), entry)
				if !same(first, second) || (firstErr != nil) != (secondErr != nil) || firstErr != nil && firstErr != secondErr {
					t.Errorf("Build(%+v, %q) = %+v, %v; then %+v, %v", l, entry, first, firstErr, second, secondErr)
				}
			}
		}
	}
}

// P1: Build ends, with ErrArg, of objects that may not be at all.
func TestObjectsThatMayNotBe(t *testing.T) {
	for _, n := range []int{math.MinInt, -1 << 32, -2, -1, 2, 5, 127, 128, 1 << 31, math.MaxInt} {
		good := func() api.Obj { return object(secs(code("x"), code("", pc(0, 1, 0))), global("main", 1, 0)) }
		bad := []func(o *api.Obj){
			func(o *api.Obj) { o.Secs[0].Size = n },
			func(o *api.Obj) { o.Secs[0].Type = n },
			func(o *api.Obj) { o.Secs[0].Ent = n },
			func(o *api.Obj) { o.Secs[0].Align = n*2 + 1 },
			func(o *api.Obj) { o.Secs[0].Flags = n | 8 },
			func(o *api.Obj) { o.Secs[0].Flags, o.Secs[0].Ent = api.Alloc|api.Merge, n },
			func(o *api.Obj) { o.Secs[0].Link = n },
			func(o *api.Obj) { o.Secs[1].Rels[0].Off = n },
			func(o *api.Obj) { o.Secs[1].Rels[0].Sym = n },
			func(o *api.Obj) { o.Secs[1].Rels[0].Type = n ^ 3 },
			func(o *api.Obj) { o.Syms[1].Sec = n ^ 1 },
			func(o *api.Obj) { o.Syms[1].Value = n },
			func(o *api.Obj) { o.Syms[1].Bind = n ^ 5 },
			func(o *api.Obj) { o.Syms[0].Value = n },
			func(o *api.Obj) { o.HasSig, o.Sig = true, []int{n} },
			func(o *api.Obj) { o.Groups = []api.Group{{Sym: 1, Members: []int{n}}} },
			func(o *api.Obj) { *o = grouped(*o, 1, 1); o.Groups[0].Sym = n },
			func(o *api.Obj) { o.Secs[0].Name = strings.Repeat("n", 33) },
			func(o *api.Obj) { o.Syms[1].Name = "a\x00" },
			func(o *api.Obj) { o.Secs = make([]api.Sec, 33) },
			func(o *api.Obj) { o.Syms = nil },
		}
		for i, change := range bad {
			o := good()
			change(&o)
			if _, code := plain(list(o)).graph("main"); code != api.ErrArg {
				hold(t, list(o), "main") // n is one that may be there
				continue
			}
			for _, l := range [][]api.Obj{{o}, {o, fine()}, {fine(), o}, {object(nil, asked("u")), o, unlaid()}} {
				got, err := graph.Build(l, "main")
				if !isCode(err, api.ErrArg) || !reflect.DeepEqual(got, api.Graph{}) {
					t.Errorf("change %d by %d: Build = %+v, %v", i, n, got, err)
				}
			}
		}
	}
	mustFail(t, api.ErrArg, "main", make([]api.Obj, 9)...)
	mustFail(t, api.ErrArg, "main", make([]api.Obj, 1000)...)
	mustFail(t, api.ErrArg, "", make([]api.Obj, 1)...)
}

// P1: Build ends with as much as objects may have, and with any entry.
func TestAsMuchAsMayBe(t *testing.T) {
	var l []api.Obj
	for o := range 8 {
		var syms []api.Sym
		for i := range 127 {
			syms = append(syms, weak(strings.Repeat(string([]byte{byte(i + 1)}), 9), 1+i%3, i*(1+i%2)))
		}
		long := texts(strings.Repeat("\x00", 4000))
		big := object(secs(texts(strings.Repeat("a\x00\x00", 1000)), long, entries(4, strings.Repeat("0123", 400)), zeros(api.MaxAddr)), syms...)
		if o%2 == 1 {
			big.HasSig, big.Sig = true, slices.Repeat([]int{1, 2, 3, 4}, 500)
		}
		l = append(l, big)
	}
	mustBeObjects(t, l...)
	for _, entry := range []string{"\x01\x01\x01\x01\x01\x01\x01\x01\x01", strings.Repeat("\x7f", 9)} {
		g, err := graph.Build(l, entry)
		if err != nil || len(g.Nodes) != 8*(2000+4000+400+1) || len(g.Names) != 127 {
			t.Fatalf("of %q there are %d nodes, %d names, %v", entry, len(g.Nodes), len(g.Names), err)
		}
		mustFollow(t, l, g)
		mayBe(t, g)
	}
	for _, entry := range []string{"", "\x00", strings.Repeat("n", 1<<20), "\xff\xfe"} {
		if g, err := graph.Build(l, entry); !isCode(err, api.ErrEntry) || !reflect.DeepEqual(g, api.Graph{}) {
			t.Errorf("an entry of %d bytes: %v", len(entry), err)
		}
	}
}
