package join_test

import (
	"reflect"
	"slices"
	"strings"
	"testing"
	"time"

	"fishplate/api"
	"fishplate/join"
)

// text tells a string: a piece of Merge with Strings, of some bytes.
func text(b string) api.Node {
	return api.Node{Sec: 1, Name: ".str", Type: api.ProgBits, Flags: api.Alloc | api.Merge | api.Strings, Align: 1, Ent: 1, Size: len(b), Data: []byte(b)}
}

// entry tells a piece of Merge without Strings.
func entry(ent int, b string) api.Node {
	return api.Node{Sec: 2, Name: ".cst", Type: api.ProgBits, Flags: api.Alloc | api.Merge, Align: 1, Ent: ent, Size: len(b), Data: []byte(b)}
}

// code tells a node that is not of Merge.
func code(b string) api.Node {
	return api.Node{Sec: 3, Name: ".text", Type: api.ProgBits, Flags: api.Alloc | api.Exec, Align: 1, Size: len(b), Data: []byte(b)}
}

// flagged tells a node of these flags alone.
func flagged(flags int, n api.Node) api.Node {
	n.Flags = flags
	return n
}

// of tells a node of an Ent.
func of(ent int, n api.Node) api.Node {
	n.Ent = ent
	return n
}

// graph tells a graph of nodes.
func graph(nodes ...api.Node) api.Graph { return api.Graph{Nodes: nodes} }

// texts tells a graph of strings.
func texts(l ...string) api.Graph {
	var g api.Graph
	for _, b := range l {
		g.Nodes = append(g.Nodes, text(b))
	}
	return g
}

// all tells of each node of a graph that it is kept.
func all(g api.Graph) []bool { return slices.Repeat([]bool{true}, len(g.Nodes)) }

// but tells of each node of a graph that it is kept, but for some.
func but(g api.Graph, out ...int) []bool {
	kept := all(g)
	for _, i := range out {
		kept[i] = false
	}
	return kept
}

// at tells a Spot.
func at(node, at int) join.Spot { return join.Spot{Node: node, At: at} }

// spots tells a list of Spots.
func spots(l ...join.Spot) []join.Spot { return l }

// isText tells whether a node is of Merge with Strings.
func isText(n api.Node) bool { return n.Flags&api.Merge != 0 && n.Flags&api.Strings != 0 }

// alike tells by the chapter's words whether two pieces are alike.
func alike(a, b api.Node) bool {
	return a.Flags&api.Merge != 0 && b.Flags&api.Merge != 0 && isText(a) == isText(b) && a.Ent == b.Ent && string(a.Data) == string(b.Data)
}

// plainHead tells the head of a kept piece of Merge by the chapter's words.
func plainHead(g api.Graph, kept []bool, i int) int {
	for h := range g.Nodes {
		if kept[h] && alike(g.Nodes[h], g.Nodes[i]) {
			return h
		}
	}
	return -1
}

// longer tells whether a node is longer than another one, and ends with its bytes.
func longer(g api.Graph, a, b int) bool {
	x, y := string(g.Nodes[a].Data), string(g.Nodes[b].Data)
	return len(x) > len(y) && x[len(x)-len(y):] == y
}

// plainHost tells a head's host by the chapter's words, of all kept heads with Strings.
func plainHost(g api.Graph, heads []int, head int) int {
	if !isText(g.Nodes[head]) {
		return head
	}
	for _, h := range heads {
		isLast := func(x int) bool { return longer(g, x, h) }
		if longer(g, h, head) && !slices.ContainsFunc(heads, isLast) {
			return h
		}
	}
	return head
}

// plain tells where each node stands by the chapter's words.
func plain(g api.Graph, kept []bool) []join.Spot {
	var heads []int
	for i, n := range g.Nodes {
		if kept[i] && isText(n) && plainHead(g, kept, i) == i {
			heads = append(heads, i)
		}
	}
	l := make([]join.Spot, len(g.Nodes))
	for i, n := range g.Nodes {
		l[i] = at(i, 0)
		if kept[i] && n.Flags&api.Merge != 0 {
			host := plainHost(g, heads, plainHead(g, kept, i))
			l[i] = at(host, len(g.Nodes[host].Data)-len(n.Data))
		}
	}
	return l
}

// mustJoin holds where nodes stand, asked twice, against where they should, and against the plain reading.
func mustJoin(t *testing.T, g api.Graph, kept []bool, want ...join.Spot) {
	t.Helper()
	for range 2 {
		if got := join.Join(g, kept); !slices.Equal(got, want) {
			t.Errorf("Join(%+v, %v) = %v; want %v", g, kept, got, want)
		}
	}
	if got := plain(g, kept); !slices.Equal(got, want) {
		t.Errorf("the plain reading of %+v, %v tells %v; want %v", g, kept, got, want)
	}
	mustFollow(t, g, kept, want)
}

// mustFollow holds P14.3: where a piece stands its bytes are, and who is a host stands in itself.
func mustFollow(t *testing.T, g api.Graph, kept []bool, l []join.Spot) {
	t.Helper()
	for i, s := range l {
		b, host := string(g.Nodes[i].Data), string(g.Nodes[s.Node].Data)
		if s.At < 0 || s.At+len(b) > len(host) || host[s.At:s.At+len(b)] != b {
			t.Fatalf("node %d of %+v stands at %v, where its bytes aren't", i, g, s)
		}
		if l[s.Node] != at(s.Node, 0) {
			t.Fatalf("node %d of %+v stands in %d, which stands at %v", i, g, s.Node, l[s.Node])
		}
		if kept[i] && !kept[s.Node] {
			t.Fatalf("node %d of %+v stands in %d, which isn't kept: %v", i, g, s.Node, kept)
		}
	}
}

// hold holds where nodes stand against the plain reading, and what follows.
func hold(t *testing.T, g api.Graph, kept []bool) []join.Spot {
	t.Helper()
	got, want := join.Join(g, kept), plain(g, kept)
	if !slices.Equal(got, want) {
		t.Fatalf("Join(%+v, %v) = %v; want %v", g, kept, got, want)
	}
	mustFollow(t, g, kept, got)
	return got
}

// soon ends a test whose calls don't end soon: one that tries all of all would not in hours.
func soon(t *testing.T, calls func()) {
	t.Helper()
	done := make(chan bool)
	go func() {
		calls()
		close(done)
	}()
	select {
	case <-done:
	case <-time.After(2 * time.Minute):
		t.Fatal("a call doesn't end soon")
	}
}

// counter counts on, by a fixed rule, and tells numbers below another one by where it is.
type counter uint64

func (c *counter) next(below int) int {
	*c = *c*6364136223846793005 + 1442695040888963407
	return int(*c>>33) % below
}

// text tells at most so many bytes out of some.
func (c *counter) text(most int, some string) string {
	var b strings.Builder
	for range c.next(most + 1) {
		b.WriteByte(some[c.next(len(some))])
	}
	return b.String()
}

// roomy tells a list in new memory that has room for some more, which are filled, so that it is to be seen whether they get written.
func roomy[T any](l []T, more T) []T {
	long := append(make([]T, 0, len(l)+3), l...)
	return append(long, more, more, more)[:len(l)]
}

// copied tells a graph of which nothing is shared with another.
func copied(g api.Graph) api.Graph {
	g.Nodes = roomy(g.Nodes, text("more"))
	for i, n := range g.Nodes {
		g.Nodes[i].Data = roomy(n.Data, 99)
		g.Nodes[i].Edges = roomy(n.Edges, api.Edge{To: 99})
	}
	g.Names = roomy(g.Names, api.Name{Name: "z", To: 99})
	return g
}

// whole tells all that a graph has, also what stands behind its lists' ends.
func whole(g api.Graph) []any {
	all := []any{g.To, g.At, g.Nodes[:cap(g.Nodes)], g.Names[:cap(g.Names)]}
	for _, n := range g.Nodes {
		all = append(all, n.Data[:cap(n.Data)], n.Edges[:cap(n.Edges)])
	}
	return all
}

// unchanged tells whether two graphs are one, also behind their lists' ends.
func unchanged(a, b api.Graph) bool { return reflect.DeepEqual(whole(a), whole(b)) }

// fill fills a list, also behind its end.
func fill[T any](l []T, with T) {
	l = l[:cap(l)]
	for i := range l {
		l[i] = with
	}
}
