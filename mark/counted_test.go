package mark_test

import (
	"slices"
	"testing"

	"fishplate/api"
	"fishplate/mark"
)

// small tells a node of section sec by a number below 4 * 2 * 4: an edge, a group, and Order, in all ways.
func small(sec, way int) api.Node {
	n := toward(sec)
	if to := way % 4; to < 3 {
		n = toward(sec, to)
	}
	way /= 4
	n.Group = way % 2
	if link := way / 2; link > 0 {
		n = ordered(link, n)
	}
	return n
}

// P13.1, P13.3: all graphs of three small nodes, each of its own section, of all roots.
func TestAllGraphsOfThree(t *testing.T) {
	const ways = 4 * 2 * 4
	for which := range ways * ways * ways {
		g := graph(small(1, which%ways), small(2, which/ways%ways), small(3, which/ways/ways))
		var kept [8][]bool
		for some := range kept {
			var l []int
			for i := range 3 {
				if some>>i&1 != 0 {
					l = append(l, i)
				}
			}
			kept[some] = hold(t, g, l)
		}
		for more := range kept {
			for some := range more {
				if some&more == some && !within(kept[some], kept[more]) {
					t.Fatalf("of %+v is kept %v of roots %b, %v of %b", g, kept[some], some, kept[more], more)
				}
			}
		}
	}
}

// node tells a node by where the counter is, of a graph of so many; its edges stand as layer 12 tells.
func (c *counter) node(many int) api.Node {
	var to []int
	for range max(0, c.next(5)-2) {
		to = append(to, c.next(many+1)-1)
	}
	n := toward(1+c.next(3), to...)
	n.Name = c.text(3, "ab")
	n.Obj = c.next(2)
	n.Pos, n.Unique = c.next(99), c.next(2) == 0
	for i := range n.Edges {
		n.Edges[i].At, n.Edges[i].Add = c.next(9), c.next(9)-4
	}
	if c.next(4) == 0 {
		n.Group = 1 + c.next(3)
	}
	if c.next(4) == 0 {
		n = ordered(c.next(5)-1, n)
	} else {
		n.Link = c.next(5)
	}
	if c.next(9) == 0 {
		n.Flags |= api.Retain
	}
	return n
}

// graph tells a graph by where the counter is.
func (c *counter) graph() api.Graph {
	many := 1 + c.next(9)
	g := api.Graph{To: c.next(many), At: c.next(9)}
	for range many {
		g.Nodes = append(g.Nodes, c.node(many))
	}
	for range c.next(6) {
		g = with(g, c.text(2, "xyz"), c.next(many))
	}
	// Each name stands in Names once, as of objects; they rise in half of the graphs.
	met := map[string]bool{}
	g.Names = slices.DeleteFunc(g.Names, func(n api.Name) bool {
		twice := met[n.Name]
		met[n.Name] = true
		return twice
	})
	if c.next(2) == 0 {
		slices.SortFunc(g.Names, func(a, b api.Name) int {
			if a.Name < b.Name {
				return -1
			}
			return 1
		})
	}
	return g
}

// opts tells Opts by where the counter is.
func (c *counter) opts() api.Opts {
	o := api.Opts{GC: c.next(2) == 0, Fold: c.next(2) == 0, Join: c.next(2) == 0, Entry: c.text(2, "xyz")}
	for range c.next(3) {
		o.Need = append(o.Need, c.text(2, "xyz"))
	}
	for range c.next(3) {
		o.Keep = append(o.Keep, c.text(3, "ab*?"))
	}
	return o
}

// P13.1, P13.3: many graphs, also such as no objects make, with Opts of all kinds.
func TestCountedGraphs(t *testing.T) {
	var c counter
	all, none, more := 0, 0, 0
	for range 40000 {
		g, o := c.graph(), c.opts()
		mayBe(t, g)
		want := plainRoots(g, o)
		got := mark.Roots(g, o)
		if !slices.Equal(got, want) {
			t.Fatalf("Roots(%+v, %+v) = %v; want %v", g, o, got, want)
		}
		few := hold(t, g, got)
		other := []int{c.next(len(g.Nodes)+4) - 2, c.next(len(g.Nodes)), c.next(len(g.Nodes)+4) - 2}
		if many := hold(t, g, append(other, got...)); !within(few, many) {
			t.Fatalf("of %+v is kept %v of roots %v, %v of %v more", g, few, got, many, other)
		}
		hold(t, g, other)
		switch n := len(numbers(few)); {
		case n == len(g.Nodes):
			all++
		case n > len(got):
			more++
		default:
			none++
		}
	}
	if min(all, none, more) < 4000 {
		t.Errorf("%d graphs are kept altogether, of %d more than roots, of %d roots alone", all, more, none)
	}
}
