package fold_test

import (
	"slices"
	"testing"

	"fishplate/api"
	"fishplate/fold"
	"fishplate/join"
)

// P15.1, P15.3: all graphs of four functions of two kinds, each of which calls one, or none.
func TestAllGraphsOfFour(t *testing.T) {
	for which := range 10 * 10 * 10 * 10 {
		var g api.Graph
		for rest := which; len(g.Nodes) < 4; rest /= 10 {
			n := calls(rest%5 - 1)
			n.Data[0] += byte(rest / 5 % 2)
			g.Nodes = append(g.Nodes, n)
		}
		hold(t, g, all(g), nil, alone(g))
		root := which % 4
		hold(t, g, all(g), roots(root), alone(g))
		hold(t, g, but(g, root), nil, alone(g))
	}
}

// P15.1, P15.3: all graphs of three functions of two calls each, beside two strings that are alike and one that ends so.
func TestAllGraphsOfThree(t *testing.T) {
	const ways = 6
	for which := range ways * ways * ways * ways * ways * ways {
		g := graph(text("b\x00"), text("ab\x00"), text("b\x00"))
		for rest := which; len(g.Nodes) < 6; rest /= ways * ways {
			g.Nodes = append(g.Nodes, calls(rest%ways, rest/ways%ways))
		}
		if which%3 == 0 {
			hold(t, g, all(g), nil, alone(g))
		}
		hold(t, g, all(g), nil, join.Join(g, all(g)))
	}
}

// P15.1, P15.3: all rings and tails of seven functions of one call each, of which one has another byte.
func TestAllGraphsOfSeven(t *testing.T) {
	for which := 0; which < 7*7*7*7*7*7*7; which += 23 {
		var g api.Graph
		for rest := which; len(g.Nodes) < 7; rest /= 7 {
			g.Nodes = append(g.Nodes, calls(rest%7))
		}
		g.Nodes[which%7].Data[0]++
		hold(t, g, all(g), nil, alone(g))
	}
}

// node tells a node by where the counter is, of a graph of so many.
func (c *counter) node(many int) api.Node {
	switch c.next(9) {
	case 0:
		return data("ab")
	case 1:
		return text([]string{"b\x00", "ab\x00", "\x00"}[c.next(3)])
	}
	var l []api.Edge
	for i := range max(0, c.next(5)-1) {
		e := to(8*i, c.next(many+1)-1)
		if c.next(9) == 0 {
			e.At = 1
		}
		if c.next(20) == 0 {
			e.Type = api.R32
		}
		l = append(l, e)
	}
	n := code([]string{"x", "x", "x", "y"}[c.next(4)], l...)
	n.Obj, n.Sec, n.Pos, n.Group = c.next(3), c.next(5), c.next(2), c.next(3)
	switch c.next(24) {
	case 0:
		n.Unique = true
	case 1:
		n.Flags |= api.Write
	case 2:
		n.Flags &^= api.Exec
	case 3:
		n.Align = 1
	case 4:
		n.Flags |= api.Retain
	}
	return n
}

// P15.1, P15.3: many graphs of up to 14 nodes.
func TestCountedGraphs(t *testing.T) {
	var c counter
	folded, held := 0, 0
	for range 20000 {
		many := 1 + c.next(14)
		var g api.Graph
		var kept []bool
		var l []int
		for i := range many {
			g.Nodes = append(g.Nodes, c.node(many))
			kept = append(kept, c.next(12) > 0)
			if c.next(12) == 0 {
				l = append(l, i, c.next(99)-40)
			}
		}
		spots := alone(g)
		if c.next(2) == 0 {
			spots = join.Join(g, kept)
		}
		for i, f := range hold(t, g, kept, l, spots) {
			if f != i {
				folded++
			}
			for k := range i {
				if f == i && isEligible(g, kept, l, i) && isEligible(g, kept, l, k) && alikeAtOnce(g.Nodes[i], g.Nodes[k]) {
					held++
				}
			}
		}
	}
	if folded < 4000 || held < 4000 {
		t.Errorf("%d nodes are folded, %d aren't, though they are alike at once", folded, held)
	}
}

// P15.1, P15.3: graphs with eligible nodes of Merge, which objects don't make; such nodes are alike for good if they are at one Spot.
func TestCountedPieces(t *testing.T) {
	var c counter
	piece := func(b string, ent int) api.Node {
		return changed(code(b), func(n *api.Node) { n.Flags |= api.Merge; n.Ent = ent })
	}
	pieces := []api.Node{piece("abcd", 4), piece("abcd", 4), piece("abcd", 8), piece("bcde", 4), text("ab\x00"), text("b\x00"), data("ab")}
	folded := 0
	for range 6000 {
		many := 2 + c.next(11)
		var g api.Graph
		var l []int
		for i := range many {
			if c.next(2) == 0 {
				g.Nodes = append(g.Nodes, pieces[c.next(len(pieces))])
				continue
			}
			n := calls(c.next(many+1) - 1)
			if c.next(3) == 0 {
				n = calls(c.next(many+1)-1, c.next(many+1)-1)
			}
			if c.next(12) == 0 {
				l = append(l, i)
			}
			g.Nodes = append(g.Nodes, n)
		}
		for i, f := range hold(t, g, all(g), l, join.Join(g, all(g))) {
			if f != i && len(g.Nodes[i].Edges) > 0 {
				folded++
			}
		}
	}
	if folded < 1500 {
		t.Errorf("%d nodes with edges are folded", folded)
	}
}

// mustBe holds faces of nodes of which all are kept, none is a root, and none are joined, without the plain reading.
func mustBe(t *testing.T, g api.Graph, want []int) {
	t.Helper()
	if got := fold.Fold(g, all(g), nil, alone(g)); !slices.Equal(got, want) {
		t.Errorf("of %d nodes faces are %v; want %v", len(g.Nodes), got, want)
	}
}

// P1: as many functions as objects can make, with as many edges, all alike; and beside them as many strings.
func TestAsManyAsMayBe(t *testing.T) {
	const many = 8 * api.MaxSecs
	var g api.Graph
	for i := range many {
		var to []int
		for k := range api.MaxRels {
			to = append(to, (i*7+k*k)%many)
		}
		g.Nodes = append(g.Nodes, calls(to...))
	}
	mustBe(t, g, make([]int, many))
	g.Nodes[many-1].Data[0]++
	got := fold.Fold(g, all(g), nil, alone(g))
	mustFollow(t, g, alone(g), got)
	for range 20000 {
		g.Nodes = append(g.Nodes, text("a\x00"))
	}
	for i := range many {
		g.Nodes[i].Edges[0].To = many + i*9
	}
	spots := join.Join(g, all(g))
	mustFollow(t, g, spots, fold.Fold(g, all(g), nil, spots))
}

// P15.2, R2: nothing that is handed in is changed, also not behind its end.
func TestNothingHandedInIsChanged(t *testing.T) {
	like := graph(calls(1, 4), calls(0, 5), calls(3, 4), calls(2, 5), text("a\x00"), text("a\x00"), data("x"), unique(calls(1)))
	like.Names = []api.Name{{Name: "n", To: 1}}
	for i := range like.Nodes {
		g, kept, l := copied(like), roomy(but(like, i), true), roomy(roots(7, i, i, -1, 99), 5)
		spots := roomy(join.Join(g, kept), join.Spot{Node: 99})
		before := slices.Clone(spots[:cap(spots)])
		fold.Fold(g, kept, l, spots)
		if !unchanged(g, copied(like)) || !slices.Equal(kept[:cap(kept)], append(but(like, i), true, true, true)) {
			t.Errorf("Fold changed %+v to %+v, %v", like, g, kept)
		}
		if !slices.Equal(l[:cap(l)], []int{7, i, i, -1, 99, 5, 5, 5}) || !slices.Equal(spots[:cap(spots)], before) {
			t.Errorf("Fold changed roots and Spots to %v, %v", l[:cap(l)], spots[:cap(spots)])
		}
	}
}

// P15.2: what is told is new memory, whoever changes it; no answer hangs on others.
func TestAnswersAreNewMemory(t *testing.T) {
	like := graph(calls(1), calls(0), calls(3), calls(2), data("x"), calls(4), calls(4))
	want := []int{0, 0, 0, 0, 4, 5, 5}
	for range 3 {
		g := copied(like)
		kept, spots := all(g), alone(g)
		first, second := fold.Fold(g, kept, nil, spots), fold.Fold(g, kept, nil, spots)
		fill(first, 77)
		if !slices.Equal(second, want) || !unchanged(g, copied(like)) || !slices.Equal(spots, alone(g)) {
			t.Errorf("another answer is %v, of %+v, %v", second, g, spots)
		}
		mustFold(t, g, kept, nil, spots, want...)
		for i := range g.Nodes {
			fill(g.Nodes[i].Data, 1)
			fill(g.Nodes[i].Edges, to(0, 0))
		}
		fill(kept, false)
		fill(spots, join.Spot{})
		if !slices.Equal(second, want) {
			t.Errorf("an answer was changed with what was handed in to %v", second)
		}
		mustFold(t, g, kept, nil, alone(g), own(7)...)
	}
}
