package mark_test

import (
	"slices"
	"strings"
	"testing"

	"fishplate/api"
	"fishplate/mark"
)

// toward tells a node with edges to some nodes (or -1), of object 0.
func toward(sec int, to ...int) api.Node {
	n := api.Node{Sec: sec, Name: ".text", Type: api.ProgBits, Flags: api.Alloc | api.Exec, Align: 1, Size: 4 * len(to), Data: make([]byte, 4*len(to))}
	for i, t := range to {
		n.Edges = append(n.Edges, api.Edge{Off: 4 * i, Type: api.R32, To: t})
	}
	return n
}

// named tells a node of which the section has a name.
func named(name string, n api.Node) api.Node {
	n.Name = name
	return n
}

// flagged tells a node with more flags.
func flagged(flags int, n api.Node) api.Node {
	n.Flags |= flags
	return n
}

// grouped tells a node in a group.
func grouped(group int, n api.Node) api.Node {
	n.Group = group
	return n
}

// ordered tells a node of Order on a section.
func ordered(link int, n api.Node) api.Node {
	n.Flags |= api.Order
	n.Link = link
	return n
}

// of tells a node of an object.
func of(obj int, n api.Node) api.Node {
	n.Obj = obj
	return n
}

// graph tells a graph of nodes, its entry in the first one.
func graph(nodes ...api.Node) api.Graph { return api.Graph{Nodes: nodes} }

// begun tells a graph with its entry in another node.
func begun(to int, g api.Graph) api.Graph {
	g.To = to
	return g
}

// with tells a graph with one more name.
func with(g api.Graph, name string, to int) api.Graph {
	g.Names = append(slices.Clone(g.Names), api.Name{Name: name, To: to})
	return g
}

// fits tells whether a pattern fits a name: it takes one byte after the other of the pattern, each in all ways.
func fits(pattern, name string) bool {
	switch {
	case pattern == "":
		return name == ""
	case pattern[0] == '*':
		for i := range len(name) + 1 {
			if fits(pattern[1:], name[i:]) {
				return true
			}
		}
		return false
	}
	return name != "" && (pattern[0] == '?' || pattern[0] == name[0]) && fits(pattern[1:], name[1:])
}

// isRoot tells by the chapter's words whether a node is a root.
func isRoot(g api.Graph, o api.Opts, i int) bool {
	if i == g.To {
		return true
	}
	for _, n := range g.Names {
		if n.To == i && slices.Contains(o.Need, n.Name) {
			return true
		}
	}
	for _, pattern := range o.Keep {
		if fits(pattern, g.Nodes[i].Name) {
			return true
		}
	}
	return g.Nodes[i].Flags&api.Retain != 0
}

// plainRoots tells the roots by the chapter's words.
func plainRoots(g api.Graph, o api.Opts) []int {
	var l []int
	for i := range g.Nodes {
		if isRoot(g, o, i) {
			l = append(l, i)
		}
	}
	return l
}

// comesWith tells whether with node n node m is kept, too, by the chapter's words.
func comesWith(g api.Graph, n, m int) bool {
	a, b := g.Nodes[n], g.Nodes[m]
	for _, e := range a.Edges {
		if e.To == m {
			return true
		}
	}
	if a.Group != 0 && a.Group == b.Group {
		return true
	}
	return b.Flags&api.Order != 0 && b.Link == a.Sec && b.Obj == a.Obj
}

// plainReach tells what is kept by the chapter's words: it adds nodes till none is to be added any more.
func plainReach(g api.Graph, roots []int) []bool {
	kept := make([]bool, len(g.Nodes))
	for i := range kept {
		kept[i] = slices.Contains(roots, i)
	}
	for more := true; more; {
		more = false
		for n := range kept {
			for m := range kept {
				if kept[n] && !kept[m] && comesWith(g, n, m) {
					kept[m], more = true, true
				}
			}
		}
	}
	return kept
}

// numbers tells which ones of some bools are true.
func numbers(kept []bool) []int {
	var l []int
	for i, k := range kept {
		if k {
			l = append(l, i)
		}
	}
	return l
}

// mustRoot holds the roots, asked twice, against those that they should be, and against the plain reading.
func mustRoot(t *testing.T, g api.Graph, o api.Opts, want ...int) {
	t.Helper()
	mayBe(t, g)
	for range 2 {
		if got := mark.Roots(g, o); !slices.Equal(got, want) {
			t.Errorf("Roots(%+v, %+v) = %v; want %v", g, o, got, want)
		}
	}
	if got := plainRoots(g, o); !slices.Equal(got, want) {
		t.Errorf("the plain reading of %+v, %+v tells %v; want %v", g, o, got, want)
	}
}

// roots tells a list of roots.
func roots(l ...int) []int { return l }

// mustKeep holds what is kept, asked twice, against what it should be, and against the plain reading.
func mustKeep(t *testing.T, g api.Graph, roots []int, want ...int) {
	t.Helper()
	mayBe(t, g)
	for range 2 {
		if got := mark.Reach(g, roots); len(got) != len(g.Nodes) || !slices.Equal(numbers(got), want) {
			t.Errorf("Reach(%+v, %v) = %v; want %v", g, roots, got, want)
		}
	}
	if got := numbers(plainReach(g, roots)); !slices.Equal(got, want) {
		t.Errorf("the plain reading of %+v, %v tells %v; want %v", g, roots, got, want)
	}
}

// within tells whether all that is true in some bools is true in others.
func within(a, b []bool) bool {
	for i := range a {
		if a[i] && !b[i] {
			return false
		}
	}
	return true
}

// hold holds what is kept of roots against the plain reading, and P13.3: nothing comes of what is kept, and more comes of more.
func hold(t *testing.T, g api.Graph, roots []int) []bool {
	t.Helper()
	got, want := mark.Reach(g, roots), plainReach(g, roots)
	if !slices.Equal(got, want) {
		t.Fatalf("Reach(%+v, %v) = %v; want %v", g, roots, got, want)
	}
	if again := mark.Reach(g, numbers(got)); !slices.Equal(again, got) {
		t.Fatalf("Reach(%+v, %v), of what was kept of %v, = %v", g, numbers(got), roots, again)
	}
	return got
}

// mayBe holds that a graph may be, as far as this layer looks at it.
func mayBe(t *testing.T, g api.Graph) {
	t.Helper()
	ok := g.To >= 0 && g.To < len(g.Nodes)
	for _, n := range g.Names {
		ok = ok && n.To >= 0 && n.To < len(g.Nodes)
	}
	for _, n := range g.Nodes {
		for _, e := range n.Edges {
			ok = ok && e.To >= -1 && e.To < len(g.Nodes)
		}
	}
	if !ok {
		t.Fatalf("%+v may not be", g)
	}
}

// counter counts on, by a fixed rule, and tells numbers below another one by where it is.
type counter uint64

func (c *counter) next(below int) int {
	*c = *c*6364136223846793005 + 1442695040888963407
	return int(*c>>33) % below
}

// text tells at most so many bytes out of some.
func (c *counter) text(most int, some string) string {
	var b strings.Builder
	for range c.next(most + 1) {
		b.WriteByte(some[c.next(len(some))])
	}
	return b.String()
}
