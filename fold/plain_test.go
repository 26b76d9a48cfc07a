package fold_test

import (
	"reflect"
	"slices"
	"testing"

	"fishplate/api"
	"fishplate/fold"
	"fishplate/join"
)

// code tells a node of Exec that may be eligible, of some bytes and edges; it has bytes enough for these.
func code(b string, edges ...api.Edge) api.Node {
	for _, e := range edges {
		for len(b) < e.Off+8 {
			b += "."
		}
	}
	return api.Node{Obj: 1, Sec: 2, Name: ".text", Type: api.ProgBits, Flags: api.Alloc | api.Exec, Align: 16, Size: len(b), Data: []byte(b), Edges: edges}
}

// to tells an edge at a place, to a node or (-1) to the number 0.
func to(off, node int) api.Edge { return api.Edge{Off: off, Type: api.RPC32, Add: -4, To: node} }

// calls tells a function that calls some nodes.
func calls(nodes ...int) api.Node {
	var l []api.Edge
	for i, n := range nodes {
		l = append(l, to(8*i+1, n))
	}
	return code("c", l...)
}

// text tells a string, a piece that may be joined.
func text(b string) api.Node {
	return api.Node{Sec: 1, Name: ".str", Type: api.ProgBits, Flags: api.Alloc | api.Merge | api.Strings, Align: 1, Ent: 1, Size: len(b), Data: []byte(b)}
}

// data tells a node of Write.
func data(b string) api.Node {
	return api.Node{Sec: 3, Name: ".data", Type: api.ProgBits, Flags: api.Alloc | api.Write, Align: 8, Size: len(b), Data: []byte(b)}
}

// unique tells a node whose address counts.
func unique(n api.Node) api.Node {
	n.Unique = true
	return n
}

// changed tells a node with a change.
func changed(n api.Node, change func(n *api.Node)) api.Node {
	n.Data, n.Edges = slices.Clone(n.Data), slices.Clone(n.Edges)
	change(&n)
	return n
}

// graph tells a graph of nodes.
func graph(nodes ...api.Node) api.Graph { return api.Graph{Nodes: nodes} }

// all tells of each node of a graph that it is kept.
func all(g api.Graph) []bool { return slices.Repeat([]bool{true}, len(g.Nodes)) }

// but tells of each node of a graph that it is kept, but for some.
func but(g api.Graph, out ...int) []bool {
	kept := all(g)
	for _, i := range out {
		kept[i] = false
	}
	return kept
}

// alone tells the Spots of nodes that aren't joined.
func alone(g api.Graph) []join.Spot {
	l := make([]join.Spot, len(g.Nodes))
	for i := range l {
		l[i].Node = i
	}
	return l
}

// none are no roots.
var none []int

// roots tells a list of roots.
func roots(l ...int) []int { return l }

// isEligible tells by the chapter's words whether a node is eligible.
func isEligible(g api.Graph, kept []bool, roots []int, i int) bool {
	n := g.Nodes[i]
	return kept[i] && n.Flags&api.Exec != 0 && n.Flags&api.Write == 0 && n.Type == api.ProgBits && !n.Unique && !slices.Contains(roots, i)
}

// alikeAtOnce tells by the chapter's words whether two nodes are alike at once.
func alikeAtOnce(a, b api.Node) bool {
	if a.Flags != b.Flags || a.Align != b.Align || a.Size != b.Size || string(a.Data) != string(b.Data) || len(a.Edges) != len(b.Edges) {
		return false
	}
	for i, e := range a.Edges {
		f := b.Edges[i]
		if e.Off != f.Off || e.Type != f.Type || e.Add != f.Add || e.At != f.At || (e.To == -1) != (f.To == -1) {
			return false
		}
	}
	return true
}

// plainPairs tells the greatest relation: of all pairs of eligible nodes that are alike at once some are left out till none has to be.
func plainPairs(g api.Graph, kept []bool, roots []int, spots []join.Spot) map[[2]int]bool {
	related := map[[2]int]bool{}
	for a := range g.Nodes {
		for b := range g.Nodes {
			if isEligible(g, kept, roots, a) && isEligible(g, kept, roots, b) && alikeAtOnce(g.Nodes[a], g.Nodes[b]) {
				related[[2]int{a, b}] = true
			}
		}
	}
	for again := true; again; {
		again = false
		for p := range related {
			for i, e := range g.Nodes[p[0]].Edges {
				x, y := e.To, g.Nodes[p[1]].Edges[i].To
				if x != -1 && spots[x] != spots[y] && !related[[2]int{x, y}] {
					delete(related, p)
					again = true
				}
			}
		}
	}
	return related
}

// plain tells each node's face by the chapter's words.
func plain(g api.Graph, kept []bool, roots []int, spots []join.Spot) []int {
	related := plainPairs(g, kept, roots, spots)
	faces := make([]int, len(g.Nodes))
	for i := range faces {
		faces[i] = i
		for k := range i {
			if related[[2]int{i, k}] {
				faces[i] = k
				break
			}
		}
	}
	return faces
}

// mustFold holds faces, asked twice, against those that they should be, and against the plain reading.
func mustFold(t *testing.T, g api.Graph, kept []bool, roots []int, spots []join.Spot, want ...int) {
	t.Helper()
	for range 2 {
		if got := fold.Fold(g, kept, roots, spots); !slices.Equal(got, want) {
			t.Errorf("Fold(%+v, %v, %v, %v) = %v; want %v", g, kept, roots, spots, got, want)
		}
	}
	if got := plain(g, kept, roots, spots); !slices.Equal(got, want) {
		t.Errorf("the plain reading of %+v, %v, %v, %v tells %v; want %v", g, kept, roots, spots, got, want)
	}
}

// mustAlone holds faces of nodes of which all are kept, none is a root, and none are joined.
func mustAlone(t *testing.T, g api.Graph, want ...int) {
	t.Helper()
	mustFold(t, g, all(g), none, alone(g), want...)
}

// mustFollow holds P15.3.
func mustFollow(t *testing.T, g api.Graph, spots []join.Spot, faces []int) {
	t.Helper()
	for i, f := range faces {
		if f < 0 || f > i || faces[f] != f || !alikeAtOnce(g.Nodes[i], g.Nodes[f]) {
			t.Fatalf("of %+v node %d has the face %d: %v", g, i, f, faces)
		}
		for k, e := range g.Nodes[i].Edges {
			if other := g.Nodes[f].Edges[k].To; e.To != -1 && faces[e.To] != faces[other] && spots[e.To] != spots[other] {
				t.Fatalf("of %+v node %d has the face %d, but goes elsewhere: %v, %v", g, i, f, faces, spots)
			}
		}
	}
}

// hold holds faces against the plain reading, and what follows.
func hold(t *testing.T, g api.Graph, kept []bool, roots []int, spots []join.Spot) []int {
	t.Helper()
	got, want := fold.Fold(g, kept, roots, spots), plain(g, kept, roots, spots)
	if !slices.Equal(got, want) {
		t.Fatalf("Fold(%+v, %v, %v, %v) = %v; want %v", g, kept, roots, spots, got, want)
	}
	mustFollow(t, g, spots, got)
	return got
}

// counter counts on, by a fixed rule, and tells numbers below another one by where it is.
type counter uint64

func (c *counter) next(below int) int {
	*c = *c*6364136223846793005 + 1442695040888963407
	return int(*c>>33) % below
}

// roomy tells a list in new memory that has room for some more, which are filled, so that it is to be seen whether they get written.
func roomy[T any](l []T, more T) []T {
	long := append(make([]T, 0, len(l)+3), l...)
	return append(long, more, more, more)[:len(l)]
}

// copied tells a graph of which nothing is shared with another.
func copied(g api.Graph) api.Graph {
	g.Nodes = roomy(g.Nodes, calls())
	for i, n := range g.Nodes {
		g.Nodes[i].Data = roomy(n.Data, 99)
		g.Nodes[i].Edges = roomy(n.Edges, to(99, 99))
	}
	g.Names = roomy(g.Names, api.Name{Name: "z", To: 99})
	return g
}

// whole tells all that a graph has, also what stands behind its lists' ends.
func whole(g api.Graph) []any {
	all := []any{g.To, g.At, g.Nodes[:cap(g.Nodes)], g.Names[:cap(g.Names)]}
	for _, n := range g.Nodes {
		all = append(all, n.Data[:cap(n.Data)], n.Edges[:cap(n.Edges)])
	}
	return all
}

// unchanged tells whether two graphs are one, also behind their lists' ends.
func unchanged(a, b api.Graph) bool { return reflect.DeepEqual(whole(a), whole(b)) }

// fill fills a list, also behind its end.
func fill[T any](l []T, with T) {
	l = l[:cap(l)]
	for i := range l {
		l[i] = with
	}
}
