package image_test

import (
	"bytes"
	"reflect"
	"slices"
	"testing"

	"fishplate/api"
)

// node tells a node by where the counter is, of a graph of so many.
func (c *counter) node(many int) api.Node {
	b := make([]byte, c.next(20))
	for i := range b {
		b[i] = byte(1 + c.next(255))
	}
	align := 1 << c.next(6)
	var n api.Node
	switch c.next(8) {
	case 0:
		return zeros(align, c.next(99))
	case 1, 2:
		return text([]string{"\x00", "b\x00", "ab\x00", "cb\x00", "d\x00"}[c.next(5)])
	case 3:
		return entry(4, string(append(b, 1, 2, 3, 4)[:4]))
	case 4:
		n = fixed(align, string(b))
	case 5:
		n = data(align, string(b))
	default:
		n = code(align, []string{string(b), "same....", "same...."}[c.next(3)])
	}
	for off := c.next(5); off+8 <= len(n.Data); off += 8 + c.next(3) {
		e := edge(off, []int{api.R64, api.RPC32, api.RPLT32, api.R32, api.R32S}[c.next(5)], c.next(99)-40, c.next(many+1)-1, c.next(50))
		if e.To == -1 && e.Type != api.R64 {
			e.At += base
		}
		if c.next(60) == 0 {
			e.Add = 1 << 40
		}
		n.Edges = append(n.Edges, e)
	}
	return n
}

// P18.1, P18.3: many graphs of up to 14 nodes, and their plans, joined and folded or not.
func TestCountedGraphs(t *testing.T) {
	var c counter
	met := map[api.Code]int{}
	segments := [4]int{}
	for range 6000 {
		many := 1 + c.next(14)
		var g api.Graph
		for range many {
			g.Nodes = append(g.Nodes, c.node(many))
		}
		g.To, g.At = c.next(many), c.next(9)
		kept := all(g)
		for i := range kept {
			kept[i] = i == g.To || c.next(15) > 0
		}
		// What goes to a node that isn't kept goes to the entry's, but for a few.
		for i := range g.Nodes {
			for k, e := range g.Nodes[i].Edges {
				if e.To >= 0 && !kept[e.To] {
					if g.Nodes[i].Edges[k].To = g.To; c.next(9) == 0 {
						g.Nodes[i].Edges[k].To, g.Nodes[i].Edges[k].At = e.To, 0
					}
				}
			}
		}
		for _, x := range []planned{apart(t, g, kept), pressed(t, g, kept)} {
			b := x.hold(t)
			_, code := x.plain()
			met[code]++
			if code == 0 {
				segments[get(b, 56, 2)]++
			}
		}
	}
	if met[0] < 5000 || min(met[api.ErrArg], met[api.ErrRange]) < 50 || slices.Min(segments[:]) < 20 {
		t.Errorf("met: %v, so many segments: %v", met, segments)
	}
}

// roomy tells a list in new memory that has room for some more, which are filled, so that it is to be seen whether they get written.
func roomy[T any](l []T, more T) []T {
	long := append(make([]T, 0, len(l)+3), l...)
	return append(long, more, more, more)[:len(l)]
}

// copied tells what shares nothing with another.
func (x planned) copied() planned {
	x.g.Nodes = roomy(x.g.Nodes, code(1, "c"))
	for i, n := range x.g.Nodes {
		x.g.Nodes[i].Data = roomy(n.Data, 99)
		x.g.Nodes[i].Edges = roomy(n.Edges, api.Edge{To: 99})
	}
	x.g.Names = roomy(x.g.Names, api.Name{Name: "z", To: 99})
	x.p.Addr, x.laid = roomy(x.p.Addr, 99), roomy(x.laid, true)
	return x
}

// all tells all that there is, also what stands behind lists' ends.
func (x planned) all() []any {
	all := []any{x.g.To, x.g.At, x.g.Nodes[:cap(x.g.Nodes)], x.g.Names[:cap(x.g.Names)], x.p.Addr[:cap(x.p.Addr)], x.p.Outs, x.p.Entry, x.p.End, x.laid[:cap(x.laid)]}
	for _, n := range x.g.Nodes {
		all = append(all, n.Data[:cap(n.Data)], n.Edges[:cap(n.Edges)])
	}
	return all
}

// fill fills a list, also behind its end.
func fill[T any](l []T, with T) {
	l = l[:cap(l)]
	for i := range l {
		l[i] = with
	}
}

// rich tells a plan of three segments, with edges.
func rich(t *testing.T) planned {
	t.Helper()
	g := graph(code(4, "ab......", edge(1, api.R32, 1, 2, 1)), data(2, "xyz.....", edge(0, api.R64, 0, 0, 0)), text("s\x00"), text("ts\x00"), code(4, "ab"), zeros(32, 5), code(4, "ab"))
	return pressed(t, g, but(g, 1))
}

// P18.2, R2: nothing that is handed in is changed, also not behind its end, with an answer and with an error.
func TestNothingHandedInIsChanged(t *testing.T) {
	wrong := rich(t).copied()
	wrong.g.Nodes[0].Edges[0].Add = 1 << 40
	for _, like := range []planned{rich(t), wrong, whole(t, code(1, "")), whole(t, code(1, "abc"), zeros(1, 9))} {
		x := like.copied()
		x.write()
		if !reflect.DeepEqual(x.all(), like.copied().all()) {
			t.Errorf("Write changed %+v to %+v", like, x)
		}
	}
}

// P18.2: what is told is new memory, whoever changes it; no answer hangs on others.
func TestAnswersAreNewMemory(t *testing.T) {
	for range 3 {
		for _, like := range []planned{rich(t), whole(t, code(1, "")), whole(t, code(1, "abc"))} {
			want, _ := like.plain()
			x := like.copied()
			first, _ := x.write()
			second, _ := x.write()
			fill(first, 77)
			if !bytes.Equal(second, want) || !reflect.DeepEqual(x.all(), like.copied().all()) {
				t.Errorf("another answer is %q, of %+v", brief(second), x)
			}
			if third := x.hold(t); !bytes.Equal(third, want) {
				t.Errorf("a later answer is %q", brief(third))
			}
			for i := range x.g.Nodes {
				fill(x.g.Nodes[i].Data, 1)
			}
			fill(x.g.Nodes, code(1, ""))
			fill(x.p.Addr, 5)
			if !bytes.Equal(second, want) {
				t.Errorf("an answer was changed with what was handed in to %q", brief(second))
			}
		}
	}
}
