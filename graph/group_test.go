package graph_test

import (
	"slices"
	"testing"

	"fishplate/api"
)

// ordered tells a section with Order, of another one.
func ordered(s api.Sec, link int) api.Sec {
	s.Flags |= api.Order
	s.Link = link
	return s
}

// P12.1: Link, of a section of Order, in each of its nodes, and 0 of one without it.
func TestLinks(t *testing.T) {
	l := list(
		object(secs(code("x"), ordered(filled(".meta", api.Alloc, 1, "m"), 1), ordered(texts("a\x00b\x00"), 4), comment("c"), ordered(zeros(5), 2), ordered(comment("d"), 1), ordered(filled(".last", api.Alloc, 1, ""), 8), texts("")), global("main", 1, 0)),
		object(secs(ordered(code("y"), 2), ordered(entries(4, "01234567"), 1))),
	)
	strs := []api.Node{slice(l, 0, 3, 0, 2), slice(l, 0, 3, 2, 2)}
	mustBuild(t, l, "main", made(0, 0, all(name("main", 0, 0)),
		node(l, 0, 1, true), node(l, 0, 2, true), strs[0], strs[1], node(l, 0, 5, true), node(l, 0, 7, true),
		node(l, 1, 1, true), slice(l, 1, 2, 0, 4), slice(l, 1, 2, 4, 4)))
	g := hold(t, l, "main")
	var links []int
	for _, n := range g.Nodes {
		links = append(links, n.Link)
	}
	if !slices.Equal(links, []int{0, 1, 4, 4, 2, 8, 2, 1, 1}) {
		t.Errorf("links are %v", links)
	}
	// To a section of a dropped group: the number stays.
	gone := grouped(object(secs(code("g"), ordered(filled(".meta", api.Alloc, 1, "m"), 1)), local("g", -1, 0)), 1, 1)
	l = list(group(), fine(), gone)
	if g := hold(t, l, "main"); len(g.Nodes) != 3 || g.Nodes[2].Link != 1 {
		t.Errorf("%+v", g)
	}
}

// groups tells the numbers of the groups of a graph's nodes.
func groups(g api.Graph) []int {
	var l []int
	for _, n := range g.Nodes {
		l = append(l, n.Group)
	}
	return l
}

// mustGroup holds the numbers of groups, node by node.
func mustGroup(t *testing.T, l []api.Obj, want ...int) {
	t.Helper()
	mustBeObjects(t, l...)
	if got := groups(hold(t, l, "main")); !slices.Equal(got, want) {
		t.Errorf("groups are %v; want %v: %+v", got, want, l)
	}
}

// four tells an object of four sections, with names of groups: Local symbols 1, 2 and so on.
func four(names ...string) api.Obj {
	o := object(secs(code("a"), zeros(2), texts("a\x00b\x00"), code("d")))
	for _, s := range names {
		o.Syms = append(o.Syms, local(s, -1, 0))
	}
	return o
}

// P12.1: groups have numbers from 1 on, over all objects; 0: a node in none.
func TestNumbersOfGroups(t *testing.T) {
	main := fine()
	mustGroup(t, list(main), 0)
	mustGroup(t, list(main, four()), 0, 0, 0, 0, 0, 0)
	mustGroup(t, list(grouped(fine(), 1, 1)), 1)
	mustGroup(t, list(main, grouped(four("a"), 1, 1)), 0, 1, 0, 0, 0, 0)
	mustGroup(t, list(main, grouped(four("a"), 1, 3)), 0, 0, 0, 1, 1, 0)
	mustGroup(t, list(main, grouped(four("a"), 1, 1, 2, 3, 4)), 0, 1, 1, 1, 1, 1)
	mustGroup(t, list(main, grouped(four("a"), 1, 2, 4)), 0, 0, 1, 0, 0, 1)
	mustGroup(t, list(grouped(grouped(four("a", "b"), 1, 4), 2, 1), main), 2, 0, 0, 0, 1, 0)
	mustGroup(t, list(grouped(grouped(four("a", "b"), 1, 1, 4), 2, 2, 3), main), 1, 2, 2, 2, 1, 0)
	mustGroup(t, list(grouped(four("a"), 1, 1), main, grouped(grouped(four("b", "c"), 2, 3), 1, 2), grouped(four("d"), 1, 4)),
		1, 0, 0, 0, 0, 0, 0, 3, 2, 2, 0, 0, 0, 0, 0, 4)
}

// P12.1: a group that is dropped is counted, too; its sections are no nodes.
func TestNumbersOfDroppedGroups(t *testing.T) {
	a := grouped(four("a"), 1, 1)
	mustGroup(t, list(a, fine(), a, grouped(four("b"), 1, 2)), 1, 0, 0, 0, 0, 0, 0, 0, 0, 0, 0, 3, 0, 0, 0)
	mustGroup(t, list(a, a, a, a, grouped(fine(), 1, 1)), 1, 0, 0, 0, 0, 0, 0, 0, 0, 0, 0, 0, 0, 0, 0, 0, 0, 5)
	// The first one in the object's own order keeps, be its section behind.
	mustGroup(t, list(grouped(grouped(four("a", "a"), 2, 4), 1, 1), fine()), 0, 0, 0, 1, 0)
	mustGroup(t, list(grouped(grouped(grouped(four("a", "b"), 1, 2), 1, 1), 2, 3), fine()), 1, 3, 3, 0, 0)
	// By the name alone: what else the symbols of groups are doesn't matter.
	other := grouped(object(secs(code("n")), local("x", -1, 0), hoped("a")), 2, 1)
	mustGroup(t, list(fine(), other, a), 0, 1, 0, 0, 0, 0)
	mustGroup(t, list(fine(), grouped(four("A"), 1, 1), a), 0, 1, 0, 0, 0, 0, 2, 0, 0, 0, 0)
}

// P12.1: a group whose members are no nodes is counted, too.
func TestNumbersOfGroupsWithoutNodes(t *testing.T) {
	none := grouped(object(secs(comment("c"), texts("")), local("n", -1, 0)), 1, 1, 2)
	mustGroup(t, list(none, fine(), grouped(four("a"), 1, 2)), 0, 0, 2, 0, 0, 0)
	some := grouped(object(secs(comment("c"), code("x"), texts("")), local("n", -1, 0)), 1, 1, 2, 3)
	mustGroup(t, list(grouped(four("a"), 1, 2), some, fine()), 0, 1, 0, 0, 0, 2, 0)
}
