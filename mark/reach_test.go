package mark_test

import (
	"math"
	"slices"
	"testing"

	"fishplate/api"
	"fishplate/mark"
)

// The document's example: the entry alone, pointing nowhere.
func TestExample(t *testing.T) {
	g := graph(toward(1))
	mustRoot(t, g, api.Opts{}, 0)
	mustKeep(t, g, mark.Roots(g, api.Opts{}), 0)
}

// P13.1: roots are kept; numbers that are no node's are left out.
func TestRootsAreKept(t *testing.T) {
	g := graph(toward(1), toward(2), toward(3))
	mustKeep(t, g, nil)
	mustKeep(t, g, roots())
	mustKeep(t, g, roots(0), 0)
	mustKeep(t, g, roots(1), 1)
	mustKeep(t, g, roots(2), 2)
	mustKeep(t, g, roots(0, 2), 0, 2)
	mustKeep(t, g, roots(2, 0), 0, 2)
	mustKeep(t, g, roots(1, 1), 1)
	mustKeep(t, g, roots(2, 0, 2, 1, 0), 0, 1, 2)
	for _, none := range []int{-1, -2, 3, 4, math.MaxInt, math.MinInt, math.MaxInt32, math.MinInt32, 1 << 32, 1<<32 + 1, -1 << 32} {
		mustKeep(t, g, roots(none))
		mustKeep(t, g, roots(none, none))
		mustKeep(t, g, roots(none, 1), 1)
		mustKeep(t, g, roots(2, none, 0), 0, 2)
	}
}

// P13.1: roots are what is handed in, not what the graph tells: neither its entry, nor Retain, keeps a node.
func TestOnlyRootsHandedInAreKept(t *testing.T) {
	g := with(begun(1, graph(toward(1), toward(2), flagged(api.Retain, toward(3)))), "a", 1)
	mustKeep(t, g, nil)
	mustKeep(t, g, roots(0), 0)
}

// P13.1: with a node each node To which an edge of it goes.
func TestEdges(t *testing.T) {
	g := graph(toward(1, 2), toward(2), toward(3, 4), toward(4), toward(5, 1))
	mustKeep(t, g, roots(0), 0, 1, 2, 4)
	mustKeep(t, g, roots(1), 1)
	mustKeep(t, g, roots(2), 1, 2, 4)
	mustKeep(t, g, roots(3), 3)
	mustKeep(t, g, roots(4), 1, 4)
	many := graph(toward(1, 3, 1, 4, 1), toward(2), toward(3), toward(4), toward(5))
	mustKeep(t, many, roots(0), 0, 1, 3, 4)
	mustKeep(t, many, roots(4, 3), 3, 4)
}

// P13.1: an edge of a node to itself, and edges to numbers, keep nothing more.
func TestEdgesToItselfAndToNumbers(t *testing.T) {
	g := graph(toward(1, 0), toward(2, -1), toward(3, -1, 2, -1, 0), toward(4, -1, 3))
	mustKeep(t, g, roots(0), 0)
	mustKeep(t, g, roots(1), 1)
	mustKeep(t, g, roots(2), 0, 2)
	mustKeep(t, g, roots(3), 3)
}

// P13.1: of an edge To alone is looked at: its At may be behind the node's end, its Off and Type any.
func TestEdgesOfAnyPlace(t *testing.T) {
	g := graph(toward(1, 1), toward(2), toward(3))
	for _, e := range []api.Edge{{To: 1}, {To: 1, At: 9999, Off: 4}, {To: 1, Type: api.R64, Add: -99}, {To: 1, At: 2, Add: math.MinInt}} {
		g.Nodes[0].Edges = []api.Edge{e}
		mustKeep(t, g, roots(0), 0, 1)
	}
}

// P13.1: rings end, and are kept from each node of them.
func TestRings(t *testing.T) {
	for size := 1; size < 6; size++ {
		g := graph(toward(1))
		for i := range size {
			g.Nodes = append(g.Nodes, toward(2+i, 1+(i+1)%size))
		}
		g.Nodes = append(g.Nodes, toward(9, 1))
		for from := range size {
			kept := mark.Reach(g, roots(1+from))
			if kept[0] || kept[size+1] || len(numbers(kept)) != size {
				t.Errorf("of a ring of %d from %d is kept %v", size, from, kept)
			}
			hold(t, g, roots(1+from))
		}
		mustKeep(t, g, roots(0), 0)
	}
}

// P13.1: with a node each node of its Group; 0 is none.
func TestGroups(t *testing.T) {
	g := graph(toward(1, 2), grouped(1, toward(2)), grouped(1, toward(3)), grouped(2, toward(4, 0)), grouped(1, of(3, toward(5))), grouped(2, toward(6)), toward(7))
	mustKeep(t, g, roots(0), 0, 1, 2, 4)
	mustKeep(t, g, roots(1), 1, 2, 4)
	mustKeep(t, g, roots(2), 1, 2, 4)
	mustKeep(t, g, roots(4), 1, 2, 4)
	mustKeep(t, g, roots(6), 6)
	mustKeep(t, g, roots(5), 0, 1, 2, 3, 4, 5)
	mustKeep(t, g, roots(3), 0, 1, 2, 3, 4, 5)
	none := graph(toward(1), toward(2), grouped(0, toward(3)), grouped(0, flagged(api.Grouped, toward(4))))
	for i := range none.Nodes {
		mustKeep(t, none, roots(i), i)
	}
}

// P13.1: a group is that of the number Group, be Grouped among the flags or not.
func TestGroupsByNumber(t *testing.T) {
	g := graph(grouped(7, toward(1)), grouped(7, flagged(api.Grouped, toward(2))), flagged(api.Grouped, toward(3)), grouped(1<<40, toward(4)), grouped(1<<40+7, toward(5)), grouped(1<<40, toward(6)))
	mustKeep(t, g, roots(0), 0, 1)
	mustKeep(t, g, roots(1), 0, 1)
	mustKeep(t, g, roots(2), 2)
	mustKeep(t, g, roots(3), 3, 5)
	mustKeep(t, g, roots(4), 4)
}

// P13.1: a node in a group has one that is reached by another's edge alone; what that one goes to is kept, too.
func TestGroupReachedByAnEdge(t *testing.T) {
	for _, at := range []int{1, 2, 3} {
		g := graph(toward(1, at), grouped(5, toward(2)), grouped(5, toward(3, 4)), grouped(5, toward(4)), toward(5), grouped(6, toward(6)))
		mustKeep(t, g, roots(0), 0, 1, 2, 3, 4)
	}
}

// P13.1: each node of Order whose Link is the section of a kept one, in the same object.
func TestOrder(t *testing.T) {
	g := graph(ordered(2, toward(1)), toward(2), of(1, ordered(2, toward(3))), ordered(2, toward(4)), ordered(3, toward(5)), of(1, toward(2)))
	mustKeep(t, g, roots(1), 0, 1, 3)
	mustKeep(t, g, roots(0), 0)
	mustKeep(t, g, roots(3), 3)
	mustKeep(t, g, roots(5), 2, 5)
	mustKeep(t, g, roots(2), 2)
	mustKeep(t, g, roots(4), 4)
}

// P13.1: a Link without Order is none; with other flags it is one all the same.
func TestLinkWithoutOrder(t *testing.T) {
	g := graph(toward(1), toward(2), ordered(1, toward(3)))
	g.Nodes[1].Link = 1
	g.Nodes[1].Flags = ^api.Order
	g.Nodes[2].Flags = api.Order
	mustKeep(t, g, roots(0), 0, 2)
	g.Nodes[2].Flags = -1
	mustKeep(t, g, roots(0), 0, 2)
	mustKeep(t, g, roots(2), 2)
}

// P13.1: a node of Order hangs on each node of its section.
func TestOrderOnPieces(t *testing.T) {
	g := graph(toward(1), toward(1), toward(1), ordered(1, toward(2)), ordered(1, toward(2)))
	g.Nodes[1].Pos, g.Nodes[2].Pos, g.Nodes[4].Pos = 4, 9, 3
	mustKeep(t, g, roots(0), 0, 3, 4)
	mustKeep(t, g, roots(1), 1, 3, 4)
	mustKeep(t, g, roots(2), 2, 3, 4)
	mustKeep(t, g, roots(3), 3)
}

// P13.1: Order on Order, in both directions, and in a ring, and on its own section.
func TestChainsOfOrder(t *testing.T) {
	mustKeep(t, graph(toward(1), ordered(1, toward(2)), ordered(2, toward(3)), ordered(3, toward(4))), roots(0), 0, 1, 2, 3)
	back := graph(ordered(2, toward(1)), ordered(3, toward(2)), ordered(4, toward(3)), toward(4))
	mustKeep(t, back, roots(3), 0, 1, 2, 3)
	mustKeep(t, back, roots(1), 0, 1)
	ring := graph(ordered(3, toward(1)), ordered(1, toward(2)), ordered(2, toward(3)), ordered(5, toward(4)))
	for i := range 3 {
		mustKeep(t, ring, roots(i), 0, 1, 2)
	}
	own := graph(ordered(1, toward(1)), ordered(2, toward(2)), ordered(2, toward(2)))
	mustKeep(t, own, roots(0), 0)
	mustKeep(t, own, roots(1), 1, 2)
}

// P13.1: what is of Order keeps what its own edges and its group tell.
func TestAllWaysTogether(t *testing.T) {
	g := graph(toward(1), ordered(1, grouped(3, toward(2, 4))), grouped(3, toward(3, 5)), toward(4), ordered(9, toward(5)), toward(6), ordered(6, toward(7, 6)))
	mustKeep(t, g, roots(0), 0, 1, 2, 4, 5, 6)
	mustKeep(t, g, roots(3), 3)
	mustKeep(t, g, roots(6), 6)
	mustKeep(t, g, roots(5), 5, 6)
	mustKeep(t, g, roots(2), 1, 2, 4, 5, 6)
}

// P13.1: Order on no section, by a Link of 0 or less, or of a section that isn't there.
func TestOrderOnNoSection(t *testing.T) {
	for _, link := range []int{0, -1, 3, -2, 31, 1 << 32, 1<<32 + 1, math.MaxInt, math.MinInt} {
		g := graph(toward(1), ordered(link, toward(2)), of(1, toward(3)))
		mustKeep(t, g, roots(0, 2), 0, 2)
		mustKeep(t, g, roots(1), 1)
	}
}

// P13.1: objects and sections may have any numbers, and each pair of them is a section of its own.
func TestSectionsOfAnyNumbers(t *testing.T) {
	for _, big := range []int{1, 8, 32, 33, 256, 65536, 1 << 31, 1 << 32, 1 << 40} {
		g := graph(of(big, toward(1)), ordered(1, of(big, toward(2))), ordered(1, toward(3)), ordered(big+1, toward(4)), of(1, toward(big)), ordered(big, of(1, toward(5))))
		mustKeep(t, g, roots(0), numbers(plainReach(g, roots(0)))...)
		if got := mark.Reach(g, roots(0)); !got[0] || !got[1] && big > 1 || got[2] || got[3] {
			t.Errorf("of object %d is kept %v", big, got)
		}
		mustKeep(t, g, roots(4), numbers(plainReach(g, roots(4)))...)
	}
}

// longest is how many nodes a graph of objects has at most: each of 8 has fewer bytes.
const longest = 8 * api.MaxObj

// chain tells a chain, each step of which is by an edge, a group, or Order, in turns, rising or falling; and where it begins.
func chain(size int, falling bool) (g api.Graph, first int) {
	for i := range size {
		g.Nodes = append(g.Nodes, toward(i+1, -1))
	}
	for i := range size - 1 {
		from, to := i, i+1
		if falling {
			from, to = size-1-i, size-2-i
		}
		switch i % 3 {
		case 0:
			g.Nodes[from].Edges[0].To = to
		case 1:
			g.Nodes[from].Group, g.Nodes[to].Group = i, i
		case 2:
			g.Nodes[to] = ordered(from+1, g.Nodes[to])
		}
	}
	if falling {
		first = size - 1
	}
	return g, first
}

// P13.1: a chain of all ways whose end is reached only by each step of it.
func TestShortChain(t *testing.T) {
	for _, falling := range []bool{false, true} {
		for size := 1; size < 30; size++ {
			g, first := chain(size, falling)
			if kept := hold(t, g, roots(first)); slices.Contains(kept, false) {
				t.Errorf("of a chain of %d is kept %v", size, kept)
			}
			for i := range g.Nodes {
				hold(t, g, roots(i))
			}
		}
	}
}

// P1, P13.1: the same, as long as graphs can be, and cut in its middle.
func TestLongChains(t *testing.T) {
	for _, falling := range []bool{false, true} {
		g, first := chain(longest, falling)
		if kept := mark.Reach(g, roots(first)); slices.Contains(kept, false) {
			t.Errorf("of %d nodes %d are kept", len(kept), len(numbers(kept)))
		}
		cut := longest / 2
		g.Nodes[cut] = toward(0)
		kept := mark.Reach(g, roots(first))
		if got := len(numbers(kept)); got < cut-1 || got > cut+1 || !kept[first] || kept[longest-1-first] {
			t.Errorf("of %d nodes, cut at %d, %d are kept", len(kept), cut, got)
		}
	}
}

// P1: one group of all nodes, and many nodes of Order on one section of many: such calls end soon enough, too.
func TestManyTogether(t *testing.T) {
	var one, two api.Graph
	for i := range longest {
		one.Nodes = append(one.Nodes, grouped(1, toward(1)))
		if i%2 == 0 {
			two.Nodes = append(two.Nodes, toward(1))
		} else {
			two.Nodes = append(two.Nodes, ordered(1, toward(2)))
		}
	}
	if kept := mark.Reach(one, roots(longest-1)); slices.Contains(kept, false) {
		t.Errorf("of one group %d are kept", len(numbers(kept)))
	}
	two.Nodes[0] = toward(1)
	for i := range longest / 2 {
		two.Nodes[0].Edges = append(two.Nodes[0].Edges, api.Edge{Type: api.R32, To: 2 * i})
	}
	if kept := mark.Reach(two, roots(0)); slices.Contains(kept, false) {
		t.Errorf("of one section, and Order on it, %d are kept", len(numbers(kept)))
	}
	if kept := mark.Reach(two, roots(2)); len(numbers(kept)) != 1+longest/2 {
		t.Errorf("of one piece, and Order on its section, %d are kept", len(numbers(kept)))
	}
}
