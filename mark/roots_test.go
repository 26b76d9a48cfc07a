package mark_test

import (
	"math"
	"strings"
	"testing"

	"fishplate/api"
)

// five tells a graph of five nodes that nothing makes roots of but its entry, node 2, with names in three of them.
func five() api.Graph {
	g := begun(2, graph(
		named(".text.a", toward(1, 1)), named(".text.b", toward(2)), named(".data", toward(3)), named("", toward(4)), named(".init", toward(5)),
	))
	return with(with(with(with(g, "a", 0), "d", 3), "e", 2), "e2", 2)
}

// P13.1: of a graph without more than its entry, that is the root.
func TestEntryAlone(t *testing.T) {
	mustRoot(t, graph(toward(1)), api.Opts{}, 0)
	mustRoot(t, five(), api.Opts{}, 2)
	for to := range 5 {
		mustRoot(t, begun(to, five()), api.Opts{}, to)
	}
	g := five()
	for _, at := range []int{-1, 1, 99, math.MaxInt, math.MinInt} {
		g.At = at
		mustRoot(t, g, api.Opts{}, 2)
	}
}

// P13.1: neither Entry, nor what else is to be done, makes or leaves out any root.
func TestOptsThatAreNotAsked(t *testing.T) {
	for i := range 8 {
		for _, entry := range []string{"", "a", "d", "e", ".init", "*"} {
			mustRoot(t, five(), api.Opts{GC: i&1 != 0, Fold: i&2 != 0, Join: i&4 != 0, Entry: entry}, 2)
		}
	}
}

// P13.1: the node of each of Need that is among Names.
func TestNeed(t *testing.T) {
	for _, c := range []struct {
		need []string
		want []int
	}{
		{nil, roots(2)},
		{[]string{}, roots(2)},
		{[]string{"a"}, roots(0, 2)},
		{[]string{"d"}, roots(2, 3)},
		{[]string{"e"}, roots(2)},
		{[]string{"e", "e2"}, roots(2)},
		{[]string{"d", "a"}, roots(0, 2, 3)},
		{[]string{"a", "a"}, roots(0, 2)},
		{[]string{"d", "a", "d", "a", "d"}, roots(0, 2, 3)},
		{[]string{"nowhere"}, roots(2)},
		{[]string{"nowhere", "a", "nobody"}, roots(0, 2)},
		{[]string{"a", "nowhere"}, roots(0, 2)},
		{[]string{""}, roots(2)},
		{[]string{"A"}, roots(2)},
		{[]string{"a*", "?", "*"}, roots(2)},
		{[]string{"a ", " a", "a\x00", "aa"}, roots(2)},
		{[]string{".text.a", ".init", ".data"}, roots(2)},
	} {
		mustRoot(t, five(), api.Opts{Need: c.need}, c.want...)
	}
}

// P13.1: Names need not rise in a graph that may be, and there may be many or none.
func TestNamesOfAnyOrder(t *testing.T) {
	g := graph(toward(1), toward(2), toward(3), toward(4))
	mustRoot(t, g, api.Opts{Need: []string{"a"}}, 0)
	g = with(with(with(with(g, "z", 1), "a", 3), "", 2), "m", 1)
	mustRoot(t, g, api.Opts{Need: []string{"a"}}, 0, 3)
	mustRoot(t, g, api.Opts{Need: []string{"z"}}, 0, 1)
	mustRoot(t, g, api.Opts{Need: []string{"m"}}, 0, 1)
	mustRoot(t, g, api.Opts{Need: []string{""}}, 0, 2)
	mustRoot(t, g, api.Opts{Need: []string{"m", "", "a", "z"}}, 0, 1, 2, 3)
	for i := range g.Names {
		g.Names[i].At = 7 * i
	}
	mustRoot(t, g, api.Opts{Need: []string{"a"}}, 0, 3)
}

// P13.1: each node whose section's Name a pattern of Keep fits.
func TestKeep(t *testing.T) {
	for _, c := range []struct {
		keep []string
		want []int
	}{
		{nil, roots(2)},
		{[]string{}, roots(2)},
		{[]string{".text.a"}, roots(0, 2)},
		{[]string{".text.?"}, roots(0, 1, 2)},
		{[]string{".t*"}, roots(0, 1, 2)},
		{[]string{".text"}, roots(2)},
		{[]string{".init", ".text.b"}, roots(1, 2, 4)},
		{[]string{".text.b", ".init"}, roots(1, 2, 4)},
		{[]string{".init", ".i*", "*t"}, roots(2, 4)},
		{[]string{".data"}, roots(2)},
		{[]string{".rodata", "?"}, roots(2)},
		{[]string{".rodata", ".text.a"}, roots(0, 2)},
		{[]string{""}, roots(2, 3)},
		{[]string{"*"}, roots(0, 1, 2, 3, 4)},
		{[]string{"?*"}, roots(0, 1, 2, 4)},
		{[]string{"a", "d", "e"}, roots(2)},
		{[]string{".TEXT.A"}, roots(2)},
	} {
		mustRoot(t, five(), api.Opts{Keep: c.keep}, c.want...)
	}
}

// P13.1: all nodes of one section's name, also where another's comes between; a name's bytes may be any.
func TestKeepOfManyNodes(t *testing.T) {
	g := begun(1, graph(named("x", toward(1)), named("y", toward(2)), named("x", toward(1)), named("x", of(1, toward(1))), named("y", toward(9)), named("\xff\x00*", toward(3))))
	mustRoot(t, g, api.Opts{Keep: []string{"x"}}, 0, 1, 2, 3)
	mustRoot(t, g, api.Opts{Keep: []string{"y"}}, 1, 4)
	mustRoot(t, g, api.Opts{Keep: []string{"\xff??"}}, 1, 5)
	mustRoot(t, g, api.Opts{Keep: []string{"???"}}, 1, 5)
	mustRoot(t, g, api.Opts{Keep: []string{"*\x00*"}}, 1, 5)
}

// P13.1: each node that has Retain, whatever else it has.
func TestRetain(t *testing.T) {
	g := five()
	g.Nodes[1].Flags = api.Retain
	g.Nodes[4].Flags |= api.Retain
	mustRoot(t, g, api.Opts{}, 1, 2, 4)
	g.Nodes[2].Flags = -1
	g.Nodes[3].Flags = ^api.Retain
	mustRoot(t, g, api.Opts{}, 1, 2, 4)
	for _, flag := range []int{api.Write, api.Alloc, api.Exec, api.Merge, api.Strings, api.Order, api.Grouped, api.Retain >> 1, api.Retain << 1} {
		g := five()
		g.Nodes[0].Flags = flag
		g.Nodes[1].Flags = flag | api.Retain
		mustRoot(t, g, api.Opts{}, 1, 2)
	}
}

// P13.1: who is a root for several reasons is one once, and roots rise.
func TestSeveralReasons(t *testing.T) {
	all := api.Opts{Need: []string{"e2", "d", "e", "a", "e"}, Keep: []string{".d*", ".data", "*a", ""}}
	g := five()
	g.Nodes[2].Flags |= api.Retain
	mustRoot(t, g, all, 0, 2, 3)
	g.Nodes[4].Flags |= api.Retain
	mustRoot(t, g, all, 0, 2, 3, 4)
	mustRoot(t, begun(4, g), all, 0, 2, 3, 4)
	mustRoot(t, begun(0, g), api.Opts{Need: []string{"a"}, Keep: []string{"*.a"}}, 0, 2, 4)
	for i := range g.Nodes {
		g.Nodes[i].Flags |= api.Retain
	}
	mustRoot(t, g, all, 0, 1, 2, 3, 4)
	mustRoot(t, g, api.Opts{Need: []string{"a", "d", "e", "e2"}, Keep: []string{"*", "*"}}, 0, 1, 2, 3, 4)
}

// P13.1: neither edges, nor groups, nor Order, make roots: these are kept with roots, they aren't any.
func TestRootsDoNotReach(t *testing.T) {
	g := graph(grouped(1, toward(1, 1, 2)), toward(2), toward(3), grouped(1, toward(4)), ordered(1, toward(5)))
	mustRoot(t, g, api.Opts{}, 0)
	mustRoot(t, with(g, "a", 3), api.Opts{Need: []string{"a"}}, 0, 3)
}

// P13.1: long patterns, many names, many nodes.
func TestManyRoots(t *testing.T) {
	var g api.Graph
	var o api.Opts
	for i := range 3000 {
		name := strings.Repeat("n", i%40) + string([]byte{byte('a' + i%26)})
		g.Nodes = append(g.Nodes, named(name, toward(i%32)))
		g = with(g, strings.Repeat("w", i), i)
		if i%7 == 0 {
			o.Need = append(o.Need, strings.Repeat("w", i))
		}
	}
	o.Keep = []string{"*n*nnnn*n*", "?q", "b"}
	mustRoot(t, g, o, plainRoots(g, o)...)
	o.Need = nil
	mustRoot(t, g, o, plainRoots(g, o)...)
}
