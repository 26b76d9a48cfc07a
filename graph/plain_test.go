package graph_test

import (
	"errors"
	"reflect"
	"slices"
	"testing"

	"fishplate/api"
	"fishplate/graph"
	"fishplate/names"
	"fishplate/obj"
	"fishplate/rela"
)

// filled tells a section of ProgBits, without Merge, with bytes enough for its relocations.
func filled(name string, flags, align int, b string, rels ...api.Rel) api.Sec {
	for _, r := range rels {
		for len(b) < r.Off+rela.Width(r.Type) {
			b += "."
		}
	}
	return api.Sec{Name: name, Type: api.ProgBits, Flags: flags, Align: align, Size: len(b), Data: []byte(b), Rels: rels}
}

// code tells a section of Exec.
func code(b string, rels ...api.Rel) api.Sec {
	return filled(".text", api.Alloc|api.Exec, 16, b, rels...)
}

// zeros tells a section of NoBits.
func zeros(size int) api.Sec {
	return api.Sec{Name: ".bss", Type: api.NoBits, Flags: api.Alloc | api.Write, Align: 32, Size: size}
}

// comment tells a section without Alloc.
func comment(b string, rels ...api.Rel) api.Sec { return filled(".comment", 0, 1, b, rels...) }

// texts tells a section of Merge with Strings.
func texts(b string) api.Sec {
	return api.Sec{Name: ".str", Type: api.ProgBits, Flags: api.Alloc | api.Merge | api.Strings, Align: 1, Ent: 1, Size: len(b), Data: []byte(b)}
}

// entries tells a section of Merge without Strings.
func entries(ent int, b string) api.Sec {
	return api.Sec{Name: ".cst", Type: api.ProgBits, Flags: api.Alloc | api.Merge, Align: ent / 2, Ent: ent, Size: len(b), Data: []byte(b)}
}

// pc and word tell a relocation, of four bytes and of eight.
func pc(off, sym, add int) api.Rel { return api.Rel{Off: off, Type: api.RPC32, Sym: sym, Add: add} }
func word(off, sym, add int) api.Rel {
	return api.Rel{Off: off, Type: api.R64, Sym: sym, Add: add}
}

// local, global and weak tell a symbol of a Bind, in a section, absolute (-1), or undefined (0).
func local(name string, sec, value int) api.Sym {
	return api.Sym{Name: name, Bind: api.Local, Sec: sec, Value: value}
}
func global(name string, sec, value int) api.Sym {
	return api.Sym{Name: name, Bind: api.Global, Type: 2, Sec: sec, Value: value, Size: 3}
}
func weak(name string, sec, value int) api.Sym {
	return api.Sym{Name: name, Bind: api.Weak, Type: 1, Sec: sec, Value: value, Size: 5}
}

// asked and hoped tell a symbol that is undefined, a Global one and a Weak one.
func asked(name string) api.Sym { return global(name, 0, 0) }
func hoped(name string) api.Sym { return weak(name, 0, 0) }

// secs tells a list of sections.
func secs(l ...api.Sec) []api.Sec { return l }

// object tells an object of sections, with symbols behind the zero one.
func object(l []api.Sec, syms ...api.Sym) api.Obj {
	return api.Obj{Secs: slices.Clone(l), Syms: append([]api.Sym{{}}, syms...)}
}

// grouped tells an object with one more group, of a symbol.
func grouped(o api.Obj, sym int, members ...int) api.Obj {
	o.Secs, o.Groups = slices.Clone(o.Secs), slices.Clone(o.Groups)
	for _, n := range members {
		o.Secs[n-1].Flags |= api.Grouped
	}
	o.Groups = append(o.Groups, api.Group{Sym: sym, Members: members})
	return o
}

// signed tells an object with a Sig.
func signed(o api.Obj, sig ...int) api.Obj {
	o.HasSig, o.Sig = true, sig
	return o
}

// list tells a list of objects.
func list(l ...api.Obj) []api.Obj { return l }

// edge tells an edge of four bytes to a node, or (to -1) to a number.
func edge(off, to, at, add int) api.Edge {
	return api.Edge{Off: off, Type: api.RPC32, Add: add, To: to, At: at}
}

// name tells a name in a node.
func name(s string, to, at int) api.Name { return api.Name{Name: s, To: to, At: at} }

// node tells the node that a section without Merge is, in no group.
func node(l []api.Obj, o, sec int, unique bool, edges ...api.Edge) api.Node {
	s := l[o].Secs[sec-1]
	return api.Node{Obj: o, Sec: sec, Name: s.Name, Type: s.Type, Flags: s.Flags, Align: s.Align, Size: s.Size, Data: s.Data, Link: s.Link, Unique: unique, Edges: edges}
}

// slice tells the node that so many bytes of a section of Merge are, in no group.
func slice(l []api.Obj, o, sec, pos, size int) api.Node {
	n := node(l, o, sec, false)
	n.Pos, n.Size, n.Data, n.Ent = pos, size, n.Data[pos:pos+size], l[o].Secs[sec-1].Ent
	return n
}

// in tells a node in a group.
func in(group int, n api.Node) api.Node {
	n.Group = group
	return n
}

// made tells a graph.
func made(to, at int, all []api.Name, nodes ...api.Node) api.Graph {
	return api.Graph{Nodes: nodes, To: to, At: at, Names: all}
}

// all tells a list of names.
func all(l ...api.Name) []api.Name { return l }

// plain is objects, read by the chapter's words, one after the other.
type plain []api.Obj

// cuts tells where the pieces of a section end.
func cuts(s api.Sec) []int {
	if s.Flags&api.Merge == 0 {
		return []int{s.Size}
	}
	var l []int
	for i, c := range s.Data {
		last := (i+1)%s.Ent == 0
		if s.Flags&api.Strings != 0 {
			last = c == 0
		}
		if last {
			l = append(l, i+1)
		}
	}
	return l
}

// group tells the number of the group in which section n (from 1 on) of object o is.
func (l plain) group(o, n int) int {
	number := 0
	for p := range l {
		for _, g := range l[p].Groups {
			number++
			if p == o && slices.Contains(g.Members, n) {
				return number
			}
		}
	}
	return 0
}

// unique tells whether the nodes of section n of object o are Unique.
func (l plain) unique(t names.Table, o, n int) bool {
	if l[o].Secs[n-1].Flags&api.Merge != 0 {
		return false
	}
	if !l[o].HasSig {
		return true
	}
	for p := range l {
		for _, s := range l[p].Sig {
			if at, err := names.Where(l, t, p, s); err == nil && at.Obj == o && at.Sec == n {
				return true
			}
		}
	}
	return false
}

// nodes tells all nodes, without their edges.
func (l plain) nodes(t names.Table) []api.Node {
	var nodes []api.Node
	for o := range l {
		for i, s := range l[o].Secs {
			if s.Flags&api.Alloc == 0 || t.Dropped[o][i] {
				continue
			}
			from := 0
			for _, end := range cuts(s) {
				n := api.Node{Obj: o, Sec: i + 1, Pos: from, Name: s.Name, Type: s.Type, Flags: s.Flags, Align: s.Align, Ent: s.Ent, Size: end - from}
				if s.Type != api.NoBits {
					n.Data = s.Data[from:end]
				}
				n.Unique, n.Group = l.unique(t, o, i+1), l.group(o, i+1)
				if s.Flags&api.Order != 0 {
					n.Link = s.Link
				}
				nodes = append(nodes, n)
				from = end
			}
		}
	}
	return nodes
}

// spot tells in which node a place in a section is: of two that it is in, or just behind, the second one.
func spot(nodes []api.Node, p names.Place) (to, at int, ok bool) {
	for i, n := range nodes {
		if n.Obj == p.Obj && n.Sec == p.Sec && p.At >= n.Pos && p.At <= n.Pos+n.Size {
			to, at, ok = i, p.At-n.Pos, true
		}
	}
	return to, at, ok
}

// edges tells the edges of a node, and the first one's error; 0: there is none.
func (l plain) edges(t names.Table, nodes []api.Node, n api.Node) ([]api.Edge, api.Code) {
	var edges []api.Edge
	for _, r := range l[n.Obj].Secs[n.Sec-1].Rels {
		p, err := names.Where(l, t, n.Obj, r.Sym)
		if err != nil {
			return nil, err.(api.Code)
		}
		to, at := -1, p.At
		if p.Sec != 0 {
			ok := false
			if to, at, ok = spot(nodes, p); !ok {
				return nil, api.ErrReloc
			}
		}
		edges = append(edges, api.Edge{Off: r.Off, Type: r.Type, Add: r.Add, To: to, At: at})
	}
	return edges, 0
}

// graph tells the graph, and Build's error; 0: there is none.
func (l plain) graph(entry string) (api.Graph, api.Code) {
	t, err := names.Resolve(l)
	if err != nil {
		return api.Graph{}, err.(api.Code)
	}
	g := api.Graph{Nodes: l.nodes(t)}
	for i, n := range g.Nodes {
		edges, code := l.edges(t, g.Nodes, n)
		if code != 0 {
			return api.Graph{}, code
		}
		g.Nodes[i].Edges = edges
	}
	met := false
	for _, d := range t.Defs {
		p, _ := names.Where(l, t, d.Obj, d.Sym)
		to, at, ok := spot(g.Nodes, p)
		if p.Sec == 0 || !ok {
			continue
		}
		g.Names = append(g.Names, name(d.Name, to, at))
		if d.Name == entry {
			g.To, g.At, met = to, at, true
		}
	}
	if !met {
		return api.Graph{}, api.ErrEntry
	}
	return g, 0
}

// even tells a graph with nil for each list of no elements.
func even(g api.Graph) api.Graph {
	g.Nodes = slices.Clone(g.Nodes)
	for i, n := range g.Nodes {
		if len(n.Data) == 0 {
			g.Nodes[i].Data = nil
		}
		if len(n.Edges) == 0 {
			g.Nodes[i].Edges = nil
		}
	}
	if len(g.Nodes) == 0 {
		g.Nodes = nil
	}
	if len(g.Names) == 0 {
		g.Names = nil
	}
	return g
}

// same tells whether two graphs are one, be lists of no elements nil or not.
func same(a, b api.Graph) bool { return reflect.DeepEqual(even(a), even(b)) }

// isCode tells whether an error is a Code itself; 0: whether it is none.
func isCode(err error, code api.Code) bool {
	if code == 0 {
		return err == nil
	}
	if err != code || !errors.Is(err, code) {
		return false
	}
	for other := api.ErrArg; other <= api.ErrLarge; other++ {
		if other != code && errors.Is(err, other) {
			return false
		}
	}
	return true
}

// mustFail holds Build to an error, with a zero graph.
func mustFail(t *testing.T, code api.Code, entry string, l ...api.Obj) {
	t.Helper()
	for range 2 {
		if got, err := graph.Build(l, entry); !isCode(err, code) || !reflect.DeepEqual(got, api.Graph{}) {
			t.Errorf("Build(%+v, %q) = %+v, %v; want %v", l, entry, got, err, code)
		}
	}
	if _, got := plain(l).graph(entry); got != code {
		t.Errorf("the plain reading of %+v, %q tells %v; want %v", l, entry, got, code)
	}
}

// mustBuild holds Build's graph against the one that it should be.
func mustBuild(t *testing.T, l []api.Obj, entry string, want api.Graph) {
	t.Helper()
	if got := hold(t, l, entry); !same(got, want) {
		t.Errorf("Build(%+v, %q) = %+v; want %+v", l, entry, got, want)
	}
}

// hold holds what is told of objects against the plain reading, and what follows; it tells their graph.
func hold(t *testing.T, l []api.Obj, entry string) api.Graph {
	t.Helper()
	want, code := plain(l).graph(entry)
	got, err := graph.Build(l, entry)
	if !isCode(err, code) {
		t.Fatalf("Build(%+v, %q): %v; want %v", l, entry, err, code)
	}
	if code != 0 {
		if !reflect.DeepEqual(got, api.Graph{}) {
			t.Fatalf("Build(%+v, %q) = %+v beside %v", l, entry, got, err)
		}
		return got
	}
	if !same(got, want) {
		t.Fatalf("Build(%+v, %q) = %+v; want %+v", l, entry, got, want)
	}
	mustFollow(t, l, got)
	mayBe(t, got)
	return got
}

// mustFollow holds P12.3 of a graph: nodes have their sections' bytes, and those of a section are all of it.
func mustFollow(t *testing.T, l []api.Obj, g api.Graph) {
	t.Helper()
	type sec struct{ o, n int }
	bytes, end := map[sec]string{}, map[sec]int{}
	for i, n := range g.Nodes {
		own := sec{n.Obj, n.Sec}
		if n.Pos != end[own] || i > 0 && (g.Nodes[i-1].Obj > n.Obj || g.Nodes[i-1].Obj == n.Obj && g.Nodes[i-1].Sec > n.Sec) {
			t.Fatalf("node %d of %+v stands out of order", i, g)
		}
		end[own] += n.Size
		bytes[own] += string(n.Data)
	}
	for own, b := range bytes {
		if s := l[own.o].Secs[own.n-1]; b != string(s.Data) || end[own] != s.Size {
			t.Fatalf("the nodes of section %d of object %d aren't all of it: %+v", own.n, own.o, g)
		}
	}
}

// mayBe holds that a graph may be.
func mayBe(t *testing.T, g api.Graph) {
	t.Helper()
	ok := g.To >= 0 && g.To < len(g.Nodes)
	for i, n := range g.Names {
		ok = ok && n.To >= 0 && n.To < len(g.Nodes) && (i == 0 || g.Names[i-1].Name < n.Name)
	}
	for _, n := range g.Nodes {
		end := 0
		for _, e := range n.Edges {
			ok = ok && e.To >= -1 && e.To < len(g.Nodes) && e.At >= 0 && e.At <= api.MaxAddr
			ok = ok && rela.Width(e.Type) > 0 && e.Off >= end && e.Off+rela.Width(e.Type) <= len(n.Data)
			end = e.Off + rela.Width(e.Type)
		}
		size := len(n.Data)
		if n.Type == api.NoBits && size == 0 {
			size = n.Size
		}
		ok = ok && n.Size == size && n.Size >= 0 && n.Size <= api.MaxAddr && n.Align > 0 && n.Align <= api.MaxAlign && n.Align&(n.Align-1) == 0
	}
	if !ok {
		t.Fatalf("%+v may not be", g)
	}
}

// mustBeObjects holds that objects may be.
func mustBeObjects(t *testing.T, l ...api.Obj) {
	t.Helper()
	for i, o := range l {
		if !obj.May(o) {
			t.Fatalf("object %d may not be: %+v", i, o)
		}
	}
}
