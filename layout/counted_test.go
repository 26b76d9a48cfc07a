package layout_test

import (
	"reflect"
	"slices"
	"testing"

	"fishplate/api"
	"fishplate/join"
	"fishplate/layout"
)

// P16.1, P16.3: all graphs of three nodes out of some, of which all are kept, and of which one isn't.
func TestAllGraphsOfThree(t *testing.T) {
	l := []api.Node{
		fixed(1, 0), fixed(16, 3), entry(4, 4, 1), entry(16, 16, 1), text("ab\x00"), text("b\x00"), changed(text(""), 8),
		code(1, 0), code(64, 5), code(4096, 4097), data(1, 0), data(8, 3), zeros(1, 0), zeros(128, 9), zeros(4096, 1<<30), zeros(1, 1<<31-base-4096),
	}
	for _, a := range l {
		for _, b := range l {
			for _, c := range l {
				g := graph(a, b, c)
				whole := together(g).hold(t)
				for i := range 3 {
					p := together(g)
					p.kept, p.g.To = but(g, i), (i+1)%3
					mustShrink(t, g, whole, p.hold(t))
				}
				kept := all(g)
				mustShrink(t, g, whole, pressed(g, kept).hold(t))
			}
		}
	}
}

// node tells a node by where the counter is.
func (c *counter) node() api.Node {
	align := 1 << c.next(5)
	if c.next(9) == 0 {
		align = 1 << c.next(13)
	}
	size := c.next(20)
	switch c.next(10) {
	case 0, 1:
		return code(4, c.next(3))
	case 2:
		return code(align, size)
	case 3:
		return data(align, size)
	case 4:
		if c.next(3) == 0 {
			size = c.next(api.MaxAddr)
		}
		return zeros(align, size)
	case 5, 6:
		return text([]string{"\x00", "b\x00", "ab\x00", "cb\x00", "d\x00"}[c.next(5)])
	case 7:
		ent := 4 << c.next(3)
		return entry(min(align, ent), ent, byte(c.next(2)))
	}
	return fixed(align, size)
}

// P16.1, P16.3: many graphs of up to 19 nodes, joined and folded or not.
func TestCountedGraphs(t *testing.T) {
	var c counter
	large, moved := 0, 0
	for range 30000 {
		many := 1 + c.next(19)
		var g api.Graph
		for range many {
			g.Nodes = append(g.Nodes, c.node())
		}
		g.To, g.At = c.next(many), c.next(9)
		whole := together(g).hold(t)
		kept := all(g)
		for i := range kept {
			kept[i] = i == g.To || c.next(6) > 0
		}
		fewer := together(g)
		fewer.kept = kept
		part := fewer.hold(t)
		mustShrink(t, g, whole, part)
		p := pressed(g, kept, g.To)
		got := p.hold(t)
		mustShrink(t, g, part, got)
		p.faces = own(g)
		mustShrink(t, g, part, p.hold(t))
		if whole.End > top {
			large++
		}
		for i := range g.Nodes {
			if kept[i] && !p.isLaid(i) {
				moved++
			}
		}
	}
	if large < 500 || moved < 2000 {
		t.Errorf("%d graphs are too large, %d nodes don't stand in themselves", large, moved)
	}
}

// roomy tells a list in new memory that has room for some more, which are filled, so that it is to be seen whether they get written.
func roomy[T any](l []T, more T) []T {
	long := append(make([]T, 0, len(l)+3), l...)
	return append(long, more, more, more)[:len(l)]
}

// copied tells what shares nothing with another.
func (p plain) copied() plain {
	p.g.Nodes = roomy(p.g.Nodes, code(1, 1))
	for i, n := range p.g.Nodes {
		p.g.Nodes[i].Data = roomy(n.Data, 99)
		p.g.Nodes[i].Edges = roomy(n.Edges, api.Edge{To: 99})
	}
	p.g.Names = roomy(p.g.Names, api.Name{Name: "z", To: 99})
	p.kept, p.spots, p.faces = roomy(p.kept, true), roomy(p.spots, join.Spot{Node: 99}), roomy(p.faces, 99)
	return p
}

// whole tells all that there is, also what stands behind lists' ends.
func (p plain) whole() []any {
	all := []any{p.g.To, p.g.At, p.g.Nodes[:cap(p.g.Nodes)], p.g.Names[:cap(p.g.Names)], p.kept[:cap(p.kept)], p.spots[:cap(p.spots)], p.faces[:cap(p.faces)]}
	for _, n := range p.g.Nodes {
		all = append(all, n.Data[:cap(n.Data)], n.Edges[:cap(n.Edges)])
	}
	return all
}

// fill fills a list, also behind its end.
func fill[T any](l []T, with T) {
	l = l[:cap(l)]
	for i := range l {
		l[i] = with
	}
}

// rich tells a graph for all output sections, joined and folded.
func rich() plain {
	g := begun(2, 1, graph(zeros(32, 100), data(8, 10), code(16, 7), text("abc\x00"), entry(8, 16, 1), fixed(2, 3), code(16, 7), text("bc\x00"), code(1, 1)))
	return pressed(g, but(g, 8))
}

// P16.2, R2: nothing that is handed in is changed, also not behind its end, with an answer and with an error.
func TestNothingHandedInIsChanged(t *testing.T) {
	large := rich()
	large.g.Nodes = append(slices.Clone(large.g.Nodes), zeros(1, api.MaxAddr))
	for _, like := range []plain{rich(), together(rich().g), pressed(large.g, all(large.g))} {
		p := like.copied()
		layout.Place(p.g, p.kept, p.spots, p.faces)
		if !reflect.DeepEqual(p.whole(), like.copied().whole()) {
			t.Errorf("Place changed %+v to %+v", like, p)
		}
	}
}

// P16.2: what is told is new memory, whoever changes it; no answer hangs on others.
func TestAnswersAreNewMemory(t *testing.T) {
	want := rich().plan()
	for range 3 {
		p := rich().copied()
		first, _ := p.place()
		second, _ := p.place()
		fill(first.Addr, 77)
		if !same(second, want) || !reflect.DeepEqual(p.whole(), rich().copied().whole()) {
			t.Errorf("another answer is %+v, of %+v", second, p)
		}
		mustPlan(t, p, want)
		mustBeLarge(t, together(graph(zeros(1, api.MaxAddr))))
		fill(p.g.Nodes, code(1, 1))
		fill(p.kept, false)
		fill(p.spots, join.Spot{})
		fill(p.faces, 0)
		if !same(second, want) {
			t.Errorf("an answer was changed with what was handed in to %+v", second)
		}
		mustPlan(t, rich(), want)
	}
}
