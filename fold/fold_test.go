package fold_test

import (
	"math"
	"slices"
	"testing"

	"fishplate/api"
	"fishplate/join"
)

// The document's example: two functions that call each other, and two that do, too.
func TestExample(t *testing.T) {
	a, b := calls, func(nodes ...int) api.Node {
		return changed(calls(nodes...), func(n *api.Node) { n.Data[0] = 'b' })
	}
	mustAlone(t, graph(a(1), b(0), a(3), b(2)), 0, 1, 0, 1)
	mustAlone(t, graph(a(3), a(2), b(1), b(0)), 0, 0, 2, 2)
	// Of two that are alike, too, all four are.
	mustAlone(t, graph(a(1), a(0), a(3), a(2)), 0, 0, 0, 0)
}

// P15.1: who is alone is its own; of several that are alike the first one is the face.
func TestFirstIsTheFace(t *testing.T) {
	mustAlone(t, graph(code("x")), 0)
	mustAlone(t, graph(code("")), 0)
	mustAlone(t, graph(code("x"), code("x")), 0, 0)
	mustAlone(t, graph(code(""), code("")), 0, 0)
	mustAlone(t, graph(code("x"), code("y"), code("x"), code("y"), code("x")), 0, 1, 0, 1, 0)
	mustAlone(t, graph(text("x"), code("y"), data("x"), code("y")), 0, 1, 2, 1)
}

// P15.1: functions that call themselves are alike for good, and so is one that calls another one of these.
func TestCallsOfItself(t *testing.T) {
	mustAlone(t, graph(calls(0), calls(1)), 0, 0)
	mustAlone(t, graph(calls(0), calls(0)), 0, 0)
	mustAlone(t, graph(calls(1), calls(1)), 0, 0)
	mustAlone(t, graph(calls(0), calls(1), calls(0), calls(2)), 0, 0, 0, 0)
	mustAlone(t, graph(calls(0, 1), calls(0, 1)), 0, 0)
	mustAlone(t, graph(calls(0, 1), calls(1, 0)), 0, 0)
	mustAlone(t, graph(calls(0), calls(2), code("x")), 0, 1, 2)
	mustAlone(t, graph(calls(0), changed(calls(1), func(n *api.Node) { n.Data[0] = 'x' }), calls(1)), 0, 1, 2)
}

// ring tells a ring of functions behind some nodes, of which the odd ones have another byte, if asked.
func ring(g api.Graph, size int, odd ...int) api.Graph {
	first := len(g.Nodes)
	for i := range size {
		n := calls(first + (i+1)%size)
		if slices.Contains(odd, i) {
			n.Data[0] = 'o'
		}
		g.Nodes = append(g.Nodes, n)
	}
	return g
}

// P15.1: rings of alike functions, of any sizes, are all alike; of those that differ, those that go on alike.
func TestRings(t *testing.T) {
	for _, size := range []int{1, 2, 3, 4, 6} {
		for _, other := range []int{1, 2, 3, 4, 6} {
			g := ring(ring(api.Graph{}, size), other)
			mustAlone(t, g, make([]int, size+other)...)
		}
	}
	mustAlone(t, ring(ring(api.Graph{}, 3, 1), 3, 1), 0, 1, 2, 0, 1, 2)
	mustAlone(t, ring(ring(api.Graph{}, 3, 1), 3, 0), 0, 1, 2, 1, 2, 0)
	mustAlone(t, ring(ring(api.Graph{}, 3, 1), 6, 1, 4), 0, 1, 2, 0, 1, 2, 0, 1, 2)
	mustAlone(t, ring(ring(api.Graph{}, 3, 1), 6, 1), 0, 1, 2, 3, 4, 5, 6, 7, 8)
	mustAlone(t, ring(ring(api.Graph{}, 2, 0), 4, 0, 2), 0, 1, 0, 1, 0, 1)
	mustAlone(t, ring(ring(api.Graph{}, 4, 0), 2, 0), 0, 1, 2, 3, 4, 5)
	mustAlone(t, ring(ring(api.Graph{}, 4, 0, 2), 6, 1, 3, 5), 0, 1, 0, 1, 1, 0, 1, 0, 1, 0)
	mustAlone(t, ring(ring(api.Graph{}, 2), 3, 2), 0, 0, 2, 3, 4)
}

// chain tells a chain of functions, rising or falling, each of which calls the next one; the last one has another byte.
func chain(g api.Graph, size int, falling bool, last byte) api.Graph {
	first := len(g.Nodes)
	for i := range size {
		next := first + i + 1
		if falling {
			next = first + i - 1
		}
		n := calls(next)
		if i == size-1 && !falling || i == 0 && falling {
			n = calls(-1)
			n.Data[0] = last
		}
		g.Nodes = append(g.Nodes, n)
	}
	return g
}

// own tells that each of some nodes is its own face.
func own(many int) []int {
	l := make([]int, many)
	for i := range l {
		l[i] = i
	}
	return l
}

// P15.1: chains of which only the last ones are unlike: each step splits one class more. (Of the same lasts both are alike.)
func TestChains(t *testing.T) {
	for _, falling := range []bool{false, true} {
		for size := 1; size < 12; size++ {
			one := chain(api.Graph{}, size, falling, 'x')
			mustAlone(t, one, own(size)...)
			mustAlone(t, chain(one, size, falling, 'y'), own(2*size)...)
			mustAlone(t, chain(one, size, falling, 'x'), append(own(size), own(size)...)...)
		}
	}
	for _, falling := range []bool{false, true} {
		const size = 700
		one := chain(api.Graph{}, size, falling, 'x')
		twice := chain(one, size, falling, 'x')
		mustBe(t, twice, append(own(size), own(size)...))
		mustBe(t, chain(one, size, falling, 'y'), own(2*size))
		mustBe(t, chain(one, size, !falling, 'x'), append(own(size), turned(size)...))
	}
}

// turned tells the first nodes, the last of them first.
func turned(many int) []int {
	l := own(many)
	slices.Reverse(l)
	return l
}

// P15.1: of chains unlike in length those steps are alike that are as far from their ends.
func TestChainsOfUnlikeLength(t *testing.T) {
	g := chain(chain(api.Graph{}, 5, false, 'x'), 3, false, 'x')
	mustAlone(t, g, 0, 1, 2, 3, 4, 2, 3, 4)
	g = chain(chain(api.Graph{}, 3, true, 'x'), 5, true, 'x')
	mustAlone(t, g, 0, 1, 2, 0, 1, 2, 6, 7)
}

// P15.1: each thing that nodes must have in common, unlike alone.
func TestUnlikeAtOnce(t *testing.T) {
	like := code("abcdefghijklmnopqrstuvwxyz", api.Edge{Off: 1, Type: api.RPC32, Add: -4, To: 0, At: 3}, api.Edge{Off: 9, Type: api.R64, Add: 7, To: -1, At: 5})
	mustAlone(t, graph(code("x"), like, like), 0, 1, 1)
	for i, change := range []func(n *api.Node){
		func(n *api.Node) { n.Flags |= api.Retain },
		func(n *api.Node) { n.Flags &^= api.Alloc },
		func(n *api.Node) { n.Flags |= api.Grouped },
		func(n *api.Node) { n.Flags |= api.Order },
		func(n *api.Node) { n.Align = 32 },
		func(n *api.Node) { n.Align = 1 },
		func(n *api.Node) { n.Data[0] = 'A' },
		func(n *api.Node) { n.Data[25] = 'Z' },
		func(n *api.Node) { n.Data[2] = 'C' }, // also where an edge is
		func(n *api.Node) { n.Data, n.Size = append(n.Data, 'z'), n.Size+1 },
		func(n *api.Node) { n.Data, n.Size = n.Data[:25], n.Size-1 },
		func(n *api.Node) { n.Edges = n.Edges[:1] },
		func(n *api.Node) { n.Edges = n.Edges[1:] },
		func(n *api.Node) { n.Edges = nil },
		func(n *api.Node) { n.Edges = append(n.Edges, to(20, 0)) },
		func(n *api.Node) { n.Edges[0].Off = 2 },
		func(n *api.Node) { n.Edges[1].Off = 17 },
		func(n *api.Node) { n.Edges[0].Type = api.RPLT32 },
		func(n *api.Node) { n.Edges[1].Type = api.R32S },
		func(n *api.Node) { n.Edges[0].Add = 4 },
		func(n *api.Node) { n.Edges[1].Add = 8 },
		func(n *api.Node) { n.Edges[1].Add = math.MinInt },
		func(n *api.Node) { n.Edges[0].At = 2 },
		func(n *api.Node) { n.Edges[1].At = 6 },
		func(n *api.Node) { n.Edges[0].To = -1 },
		func(n *api.Node) { n.Edges[1].To = 0 },
		func(n *api.Node) { n.Edges[0].To, n.Edges[1].To = -1, 0 },
	} {
		g := graph(code("x"), like, changed(like, change), like)
		if got := plain(g, all(g), none, alone(g)); !slices.Equal(got, []int{0, 1, 2, 1}) {
			t.Errorf("by change %d the plain reading tells %v", i, got)
		}
		mustAlone(t, g, 0, 1, 2, 1)
		mustAlone(t, graph(code("x"), changed(like, change), like, changed(like, change), like), 0, 1, 2, 1, 2)
	}
}

// P15.1: numbers that are unlike in their order alone, or are told alike one behind the other, are unlike.
func TestUnlikeNumbers(t *testing.T) {
	with := func(change func(n *api.Node)) api.Node {
		return changed(code("0123456789abcdef0123456789abcdef", to(0, -1), to(8, -1)), change)
	}
	g := graph(
		with(func(n *api.Node) { n.Edges[0].Add, n.Edges[1].Add = 1, 23 }),
		with(func(n *api.Node) { n.Edges[0].Add, n.Edges[1].Add = 12, 3 }),
		with(func(n *api.Node) { n.Edges[0].Add, n.Edges[1].Add = 23, 1 }),
		with(func(n *api.Node) { n.Edges[0].Add, n.Edges[0].At = 1, 11 }),
		with(func(n *api.Node) { n.Edges[0].Add, n.Edges[0].At = 11, 1 }),
		with(func(n *api.Node) { n.Edges[0].Add, n.Edges[0].At = 1, 1<<20 }),
		with(func(n *api.Node) { n.Edges[0].Add = 1 << 32 }),
		with(func(n *api.Node) { n.Edges[0].Add = 1<<32 + 1 }),
		with(func(n *api.Node) { n.Edges[0].Add = 0 }),
		with(func(n *api.Node) { n.Edges[0].Add = -1 }),
		with(func(n *api.Node) { n.Edges[0].Add = 1 << 31 }),
		with(func(n *api.Node) { n.Edges[0].Add = -1 << 31 }),
		with(func(n *api.Node) { n.Edges[0].Add = math.MaxInt }),
		with(func(n *api.Node) { n.Edges[0].Add = math.MinInt }),
	)
	mustAlone(t, g, own(len(g.Nodes))...)
}

// P15.1: nor are numbers alike that would be, written one behind the other without a gap, by any base.
func TestNumbersWithoutGap(t *testing.T) {
	for base := 2; base <= 256; base++ {
		var g api.Graph
		for _, two := range [][2]int{{1, base + 1}, {base + 1, 1}} {
			g.Nodes = append(g.Nodes, code("01234567", api.Edge{Type: api.R64, To: -1, Add: two[0], At: two[1]}))
		}
		mustAlone(t, g, 0, 1)
	}
}

// P15.1: bytes that read like an edge or a number don't make nodes alike.
func TestBytesLikeNumbers(t *testing.T) {
	g := graph(code("1 2 "), code("1 2"), code(" 1 2"), code("12"), code("1\x002"), code(""), code("\x00"), code("\x00\x00"), code(" "), code("|"), code(","), code("1 2 "))
	mustAlone(t, g, append(own(11), 0)...)
}

// P15.1: what isn't looked at is unlike, alone, and nodes are alike all the same.
func TestNotLookedAt(t *testing.T) {
	like := calls(0)
	for _, any := range []int{-1, 1, 9, math.MaxInt, math.MinInt} {
		for _, change := range []func(n *api.Node){
			func(n *api.Node) { n.Name = "other" },
			func(n *api.Node) { n.Name = "" },
			func(n *api.Node) { n.Obj = any },
			func(n *api.Node) { n.Sec = any },
			func(n *api.Node) { n.Pos = any },
			func(n *api.Node) { n.Ent = any },
			func(n *api.Node) { n.Group = any },
			func(n *api.Node) { n.Link = any },
		} {
			mustAlone(t, graph(code("x"), like, changed(like, change)), 0, 1, 1)
			mustAlone(t, graph(code("x"), changed(like, change), like), 0, 1, 1)
		}
		g := graph(like, like)
		g.To, g.At, g.Names = any, any, []api.Name{{Name: "n", To: any}}
		mustAlone(t, g, 0, 0)
	}
}

// P15.1: each reason that a node isn't eligible, alone: it is its own face, and nobody else's.
func TestNotEligible(t *testing.T) {
	like := calls(0)
	for _, change := range []func(n *api.Node){
		func(n *api.Node) { n.Flags &^= api.Exec },
		func(n *api.Node) { n.Flags |= api.Write },
		func(n *api.Node) { n.Type = api.NoBits; n.Data = nil; n.Edges = nil },
		func(n *api.Node) { n.Type = 0 },
		func(n *api.Node) { n.Unique = true },
	} {
		other := changed(like, change)
		mustAlone(t, graph(code("x"), other, other), 0, 1, 2)
		mustAlone(t, graph(code("x"), other, like, other, like), 0, 1, 2, 3, 2)
		mustAlone(t, graph(code("x"), like, other, like), 0, 1, 2, 1)
	}
	g := graph(like, like, like, like)
	mustFold(t, g, but(g, 0), none, alone(g), 0, 1, 1, 1)
	mustFold(t, g, but(g, 1), none, alone(g), 0, 1, 0, 0)
	mustFold(t, g, but(g, 0, 2), none, alone(g), 0, 1, 2, 1)
	mustFold(t, g, but(g, 0, 1, 2, 3), none, alone(g), 0, 1, 2, 3)
	mustFold(t, g, all(g), roots(0), alone(g), 0, 1, 1, 1)
	mustFold(t, g, all(g), roots(2), alone(g), 0, 0, 2, 0)
	mustFold(t, g, all(g), roots(3, 1), alone(g), 0, 1, 0, 3)
	mustFold(t, g, but(g, 0), roots(1), alone(g), 0, 1, 2, 2)
	mustFold(t, g, but(g, 0), roots(0), alone(g), 0, 1, 1, 1)
}

// P15.1: roots that are no node's numbers are left out; roots may be told twice, and in any order.
func TestRoots(t *testing.T) {
	g := graph(calls(0), calls(0), calls(0), calls(0))
	for _, none := range []int{-1, -2, 4, 5, math.MaxInt, math.MinInt, 1 << 32, 1<<32 + 1, -1 << 32} {
		mustFold(t, g, all(g), roots(none), alone(g), 0, 0, 0, 0)
		mustFold(t, g, all(g), roots(none, 2, none), alone(g), 0, 0, 2, 0)
	}
	mustFold(t, g, all(g), roots(2, 2), alone(g), 0, 0, 2, 0)
	mustFold(t, g, all(g), roots(3, 0, 3), alone(g), 0, 1, 1, 3)
	mustFold(t, g, all(g), roots(3, 2, 1, 0), alone(g), 0, 1, 2, 3)
	// The graph's entry alone is no root.
	g.To = 1
	mustFold(t, g, all(g), nil, alone(g), 0, 0, 0, 0)
}

// P15.1: edges to nodes that aren't eligible must go to one of them; edges To -1 to one number.
func TestEdgesToOthers(t *testing.T) {
	g := graph(data("d"), data("d"), calls(0), calls(1), calls(0), calls(-1), calls(-1), unique(code("u")), unique(code("u")), calls(7), calls(8), calls(7))
	mustAlone(t, g, 0, 1, 2, 3, 2, 5, 5, 7, 8, 9, 10, 9)
	g.Nodes[6].Edges[0].At = 1
	mustAlone(t, g, 0, 1, 2, 3, 2, 5, 6, 7, 8, 9, 10, 9)
	mixed := graph(calls(1, 2), code("x"), code("x"), calls(2, 1), calls(1, 5), code("y"), calls(2, 5), calls(5, 1))
	mustAlone(t, mixed, 0, 1, 1, 0, 4, 5, 4, 7)
}

// P15.1: what is called is eligible or not: of a root, and one that isn't kept, only calls of the same are alike.
func TestEdgesToWhatIsNotEligible(t *testing.T) {
	g := graph(code("x"), code("x"), code("x"), calls(0), calls(1), calls(2), calls(0))
	mustAlone(t, g, 0, 0, 0, 3, 3, 3, 3)
	mustFold(t, g, all(g), roots(0), alone(g), 0, 1, 1, 3, 4, 4, 3)
	mustFold(t, g, but(g, 1), none, alone(g), 0, 1, 0, 3, 4, 3, 3)
	mustFold(t, g, but(g, 1), roots(0, 2), alone(g), 0, 1, 2, 3, 4, 5, 3)
	mustFold(t, g, but(g, 3), none, alone(g), 0, 0, 0, 3, 4, 4, 4)
}

// P15.1: edges to nodes at one Spot go alike; at one Spot's Node but at another place, or to nodes that stand alone, they don't.
func TestEdgesToSpots(t *testing.T) {
	g := graph(text("bc\x00"), text("abc\x00"), text("bc\x00"), text("abc\x00"), text("c\x00"), text("x\x00"), calls(0), calls(2), calls(1), calls(3), calls(4), calls(5), calls(0))
	spots := join.Join(g, all(g))
	mustFold(t, g, all(g), none, spots, 0, 1, 2, 3, 4, 5, 6, 6, 8, 8, 10, 11, 6)
	mustAlone(t, g, 0, 1, 2, 3, 4, 5, 6, 7, 8, 9, 10, 11, 6)
	apart := but(g, 1, 3)
	mustFold(t, g, apart, none, join.Join(g, apart), 0, 1, 2, 3, 4, 5, 6, 6, 8, 9, 10, 11, 6)
	// At of an edge counts beside the Spot: the same byte, reached otherwise, isn't the same.
	g.Nodes[8].Edges[0].At, g.Nodes[6].Edges[0].At = 1, 0
	mustFold(t, g, all(g), none, spots, 0, 1, 2, 3, 4, 5, 6, 6, 8, 9, 10, 11, 6)
}

// P15.1: entries without Strings that are joined, and functions that call those that go to them.
func TestSpotsThroughCalls(t *testing.T) {
	entry := func(b string) api.Node {
		return api.Node{Type: api.ProgBits, Flags: api.Alloc | api.Merge, Align: 4, Ent: 4, Size: 4, Data: []byte(b)}
	}
	g := graph(entry("aaaa"), entry("aaaa"), entry("bbbb"), calls(0), calls(1), calls(2), calls(3), calls(4), calls(5))
	mustFold(t, g, all(g), none, join.Join(g, all(g)), 0, 1, 2, 3, 3, 5, 6, 6, 8)
	mustAlone(t, g, 0, 1, 2, 3, 4, 5, 6, 7, 8)
	kept := but(g, 0)
	mustFold(t, g, kept, none, join.Join(g, kept), 0, 1, 2, 3, 4, 5, 6, 7, 8)
}

// P15.1: eligible nodes of Merge, as no objects make them, at one Spot: they go alike, too.
func TestEligibleAtOneSpot(t *testing.T) {
	piece := changed(code("abcd"), func(n *api.Node) { n.Flags |= api.Merge; n.Ent = 4 })
	g := graph(piece, calls(0), piece, calls(2), calls(1), calls(3), calls(5), code("x"), calls(7))
	spots := join.Join(g, all(g))
	mustFold(t, g, all(g), none, spots, 0, 1, 0, 1, 4, 4, 6, 7, 8)
	mustFold(t, g, all(g), roots(0, 2), spots, 0, 1, 2, 1, 4, 4, 6, 7, 8)
	mustFold(t, g, but(g, 7), roots(1), spots, 0, 1, 0, 3, 4, 5, 6, 7, 8)
	rings := graph(piece, piece, calls(3, 0), calls(2, 0), calls(5, 1), calls(4, 1), calls(6, 7), code("z"))
	mustFold(t, rings, all(rings), none, join.Join(rings, all(rings)), 0, 0, 2, 2, 2, 2, 6, 7)
}

// P15.1: several edges, each of which must go alike.
func TestEachEdgeCounts(t *testing.T) {
	const many = 5
	for odd := range many {
		targets := []int{1, 1, 1, 1, 1}
		others := slices.Clone(targets)
		others[odd] = 2
		g := graph(code("x"), code("y"), code("z"), calls(targets...), calls(others...), calls(targets...), calls(others...))
		mustAlone(t, g, 0, 1, 2, 3, 4, 3, 4)
		g = graph(code("x"), code("y"), code("y"), calls(targets...), calls(others...))
		mustAlone(t, g, 0, 1, 1, 3, 3)
	}
}
