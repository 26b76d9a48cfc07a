package mark_test

import (
	"math"
	"reflect"
	"slices"
	"testing"

	"fishplate/api"
	"fishplate/mark"
)

// roomy tells a list in new memory that has room for some more, which are filled, so that it is to be seen whether they get written.
func roomy[T any](l []T, more T) []T {
	long := append(make([]T, 0, len(l)+3), l...)
	return append(long, more, more, more)[:len(l)]
}

// copied tells a graph of which nothing is shared with another.
func copied(g api.Graph) api.Graph {
	g.Nodes = roomy(g.Nodes, toward(99, 99))
	for i, n := range g.Nodes {
		g.Nodes[i].Data = roomy(n.Data, 99)
		g.Nodes[i].Edges = roomy(n.Edges, api.Edge{To: 99})
	}
	g.Names = roomy(g.Names, api.Name{Name: "z", To: 99})
	return g
}

// whole tells all that a graph has, also what stands behind its lists' ends.
func whole(g api.Graph) []any {
	all := []any{g.To, g.At, g.Nodes[:cap(g.Nodes)], g.Names[:cap(g.Names)]}
	for _, n := range g.Nodes {
		all = append(all, n.Data[:cap(n.Data)], n.Edges[:cap(n.Edges)])
	}
	return all
}

// fill fills a list, also behind its end.
func fill[T any](l []T, with T) {
	l = l[:cap(l)]
	for i := range l {
		l[i] = with
	}
}

// rich tells a graph with all that this layer looks at.
func rich() api.Graph {
	g := graph(
		named("a", toward(1, 1)), toward(2), grouped(2, toward(3, 4)), flagged(api.Retain, grouped(2, toward(4))), toward(5, -1),
		named("b", of(1, toward(1))), of(1, ordered(1, toward(2, 0))), named("c", toward(6)),
	)
	return with(with(with(begun(3, g), "n", 7), "c", 2), "d", 5)
}

// P13.2, R2: nothing that is handed in is changed, also not behind its end: roots stay as they stand.
func TestNothingHandedInIsChanged(t *testing.T) {
	for _, need := range [][]string{nil, {"n", "d", "n", "c"}} {
		for _, keep := range [][]string{nil, {"b*", "?", "a"}} {
			g, o := copied(rich()), api.Opts{Need: roomy(need, "more"), Keep: roomy(keep, "more"), Entry: "d"}
			mark.Roots(g, o)
			if !reflect.DeepEqual(whole(g), whole(copied(rich()))) {
				t.Errorf("Roots changed the graph to %+v", g)
			}
			if !slices.Equal(o.Need[:cap(o.Need)], append(slices.Clone(need), "more", "more", "more")) || !slices.Equal(o.Keep[:cap(o.Keep)], append(slices.Clone(keep), "more", "more", "more")) {
				t.Errorf("Roots changed %v, %v to %+v", need, keep, o)
			}
		}
	}
	for _, l := range [][]int{nil, {5}, {7, 5, 5, -1, 0, 99, 2}, {0, 1, 2, 3, 4, 5, 6, 7}} {
		g, handed := copied(rich()), roomy(l, 99)
		mark.Reach(g, handed)
		if !reflect.DeepEqual(whole(g), whole(copied(rich()))) {
			t.Errorf("Reach changed the graph to %+v", g)
		}
		if !slices.Equal(handed[:cap(handed)], append(slices.Clone(l), 99, 99, 99)) {
			t.Errorf("Reach changed the roots %v to %v", l, handed[:cap(handed)])
		}
	}
}

// P13.2: what is told is new memory: changing it changes no other answer, no later one, and nothing that was handed in.
func TestAnswersAreNewMemory(t *testing.T) {
	o := api.Opts{Need: []string{"n", "c"}, Keep: []string{"a"}}
	for range 3 {
		g := copied(rich())
		l := roots(5, 3)
		wantRoots, wantKept := plainRoots(g, o), plainReach(g, l)
		firstRoots, firstKept := mark.Roots(g, o), mark.Reach(g, l)
		otherRoots, otherKept := mark.Roots(g, o), mark.Reach(g, l)
		fill(firstRoots, 77)
		fill(firstKept, true)
		if !slices.Equal(otherRoots, wantRoots) || !slices.Equal(otherKept, wantKept) {
			t.Errorf("another answer was changed to %v, %v", otherRoots, otherKept)
		}
		if !slices.Equal(l, roots(5, 3)) || !reflect.DeepEqual(whole(g), whole(copied(rich()))) {
			t.Errorf("what was handed in was changed to %v, %+v", l, g)
		}
		fill(firstKept, false)
		mustRoot(t, g, o, wantRoots...)
		mustKeep(t, g, l, numbers(wantKept)...)
		fill(g.Nodes, toward(9))
		fill(g.Names, api.Name{})
		fill(l, 0)
		if !slices.Equal(otherRoots, wantRoots) || !slices.Equal(otherKept, wantKept) {
			t.Errorf("an answer was changed with the graph to %v, %v", otherRoots, otherKept)
		}
	}
}

// P13.2: roots that were told, handed on, are their own list.
func TestRootsHandedOn(t *testing.T) {
	l := mark.Roots(rich(), api.Opts{Keep: []string{"*"}})
	kept := mark.Reach(rich(), l)
	fill(l, 0)
	if slices.Contains(kept, false) {
		t.Errorf("what is kept was changed to %v", kept)
	}
}

// P13.1: what this layer doesn't look at may be any, and changes no answer.
func TestWhatIsNotLookedAt(t *testing.T) {
	var c counter
	for range 2000 {
		g, o := c.graph(), c.opts()
		wantRoots := mark.Roots(g, o)
		wantKept := mark.Reach(g, wantRoots)
		for _, any := range []int{-1, 0, 1, 3, math.MaxInt, math.MinInt} {
			g.At = any
			for i := range g.Names {
				g.Names[i].At = any
			}
			for i := range g.Nodes {
				n := &g.Nodes[i]
				n.Pos, n.Type, n.Align, n.Ent, n.Size, n.Data, n.Unique = any, any, any, any, any, nil, any > 0
				for k := range n.Edges {
					n.Edges[k].Off, n.Edges[k].Type, n.Edges[k].Add, n.Edges[k].At = any, any, any, any
				}
			}
			if got := mark.Roots(g, o); !slices.Equal(got, wantRoots) {
				t.Fatalf("by %d Roots(%+v, %+v) = %v; want %v", any, g, o, got, wantRoots)
			}
			if got := mark.Reach(g, wantRoots); !slices.Equal(got, wantKept) {
				t.Fatalf("by %d Reach(%+v, %v) = %v; want %v", any, g, wantRoots, got, wantKept)
			}
		}
	}
}

// P13.1: whoever asks again, in any order, is told the same: no answer hangs on others.
func TestAskedAgain(t *testing.T) {
	var c counter
	type asked struct {
		g     api.Graph
		o     api.Opts
		roots []int
		kept  []bool
	}
	var l []asked
	for range 200 {
		a := asked{g: c.graph(), o: c.opts()}
		a.roots = mark.Roots(a.g, a.o)
		a.kept = mark.Reach(a.g, a.roots)
		l = append(l, a)
	}
	for i := range l {
		a := l[(i*77+13)%len(l)]
		if got := mark.Roots(a.g, a.o); !slices.Equal(got, a.roots) {
			t.Errorf("Roots(%+v, %+v) = %v, then %v", a.g, a.o, a.roots, got)
		}
		if got := mark.Reach(a.g, a.roots); !slices.Equal(got, a.kept) {
			t.Errorf("Reach(%+v, %v) = %v, then %v", a.g, a.roots, a.kept, got)
		}
	}
}
