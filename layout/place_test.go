package layout_test

import (
	"math"
	"slices"
	"testing"

	"fishplate/api"
	"fishplate/join"
)

// base is where addresses begin, and page what divides where segments begin.
const (
	base = 4194304
	page = 4096
)

// The document's example: one node of Exec, of 1 byte.
func TestExample(t *testing.T) {
	mustPlan(t, together(graph(code(1, 1))), api.Plan{
		Addr: []int{base},
		Outs: [8]api.Out{
			out(base, 0, 0, 1), out(base, 0, 0, 1), out(base, 0, 0, 1), out(base, 0, 0, 1), out(base, 0, 0, 1),
			out(base, page, 1, 1), out(base+1, 0, 0, 1), out(base+1, 0, 0, 1),
		},
		Entry: base,
		End:   base + 1,
	})
}

// P16.1: a node for each output section alone: it stands where addresses begin.
func TestEachOutputSectionAlone(t *testing.T) {
	for k := range 8 {
		n := one(k, 20)
		want := api.Plan{Addr: []int{base}, Entry: base, End: base + n.Size}
		first, behind := segmentOf(k)
		for i := range 8 {
			o := out(base, 0, 0, 1)
			if i > k {
				o.Addr = base + n.Size
			}
			if i >= first && i < behind {
				o.Off = page + o.Addr - base
			}
			if i == k {
				o.Size = n.Size
			}
			want.Outs[i] = o
		}
		mustPlan(t, together(graph(n)), want)
	}
}

// P16.1: two nodes for each output section follow as in the graph, each where its Align divides next.
func TestTwoOfEach(t *testing.T) {
	for k := range 8 {
		first, second := one(k, 5), one(k, 9)
		got := together(graph(first, second)).hold(t)
		if got.Addr[0] != base || got.Addr[1] != base+first.Size || got.Outs[k].Size != first.Size+second.Size || got.Outs[k].Align != 1 {
			t.Errorf("two nodes for output section %d: %+v", k, got)
		}
		second.Align = 16
		got = together(graph(first, second)).hold(t)
		if got.Addr[0] != base || got.Addr[1] != base+up(first.Size, 16) || got.Outs[k].Align != 16 {
			t.Errorf("two nodes for output section %d, of Align 16: %+v", k, got)
		}
		got = together(graph(second, first)).hold(t)
		if got.Addr[0] != base || got.Addr[1] != base+second.Size || got.Outs[k].Align != 16 {
			t.Errorf("two nodes for output section %d, of Align 16 and 1: %+v", k, got)
		}
	}
}

// P16.1: all together, by hand.
func TestAllTogether(t *testing.T) {
	g := begun(2, 3, graph(
		zeros(32, 100), data(8, 10), code(16, 7), text("abc\x00"), entry(8, 16, 1), entry(8, 8, 2), entry(4, 4, 3), fixed(2, 3), fixed(64, 5), code(1, 2), entry(2, 4, 4), text("d\x00"),
	))
	mustPlan(t, together(g), api.Plan{
		Addr: []int{base + 2*page + 32, base + 2*page, base + page, base + 104, base + 88, base + 80, base + 72, base, base + 64, base + page + 7, base + 76, base + 108},
		Outs: [8]api.Out{
			out(base, page, 69, 64), out(base+72, page+72, 8, 4), out(base+80, page+80, 8, 8), out(base+88, page+88, 16, 8), out(base+104, page+104, 6, 1),
			out(base+page, 2*page, 9, 16),
			out(base+2*page, 3*page, 10, 8), out(base+2*page+32, 3*page+32, 100, 32),
		},
		Entry: base + page + 3,
		End:   base + 2*page + 132,
	})
}

// P16.1: all eight together, in all orders: where each output section is doesn't hang on them.
func TestAllOrders(t *testing.T) {
	nodes := []api.Node{zeros(32, 100), data(8, 10), code(16, 7), text("abc\x00"), entry(8, 16, 1), entry(8, 8, 2), entry(4, 4, 3), fixed(2, 3)}
	want := together(graph(nodes...)).hold(t).Outs
	count := 0
	var order func(l []api.Node)
	order = func(l []api.Node) {
		if len(l) == len(nodes) {
			count++
			if got := together(graph(l...)).hold(t); got.Outs != want {
				t.Fatalf("of %+v output sections are %+v; want %+v", l, got.Outs, want)
			}
			return
		}
		for _, n := range nodes {
			if !slices.ContainsFunc(l, func(m api.Node) bool { return outOf(m) == outOf(n) }) {
				order(append(slices.Clip(l), n))
			}
		}
	}
	order(nil)
	if count != 40320 {
		t.Errorf("there are %d orders", count)
	}
}

// P16.1: each segment with and without bytes, in all eight ways.
func TestSegmentsWithAndWithoutBytes(t *testing.T) {
	for way := range 8 {
		g := graph(fixed(1, 0))
		want := api.Plan{Addr: []int{base}, Entry: base, End: base}
		end, place := base, 64
		for s := range 3 {
			place += 56 * (way >> s & 1)
		}
		for s := range 3 {
			first, behind := []int{0, 5, 6}[s], []int{5, 6, 8}[s]
			has := way>>s&1 != 0
			if has {
				g.Nodes = append(g.Nodes, sized([]int{0, api.Exec, api.Write}[s], 1, 10+s))
				end, place = up(end, page), up(place, page)
				want.Addr = append(want.Addr, end)
			}
			for k := first; k < behind; k++ {
				want.Outs[k] = out(end, 0, 0, 1)
				if has {
					want.Outs[k].Off = place
				}
				if has && k == first {
					want.Outs[k].Size = 10 + s
					end += 10 + s
					place += 10 + s
				}
			}
		}
		want.End = end
		mustPlan(t, together(g), want)
	}
}

// P16.1: a segment without bytes changes nothing, whatever Align its nodes have; its sections begin where the end is.
func TestSegmentsWithoutBytes(t *testing.T) {
	g := graph(code(1, 3), fixed(4096, 0), entry(4, 4, 0), data(512, 0), zeros(4096, 0), data(64, 0))
	g.Nodes[2].Size, g.Nodes[2].Data = 0, nil
	mustPlan(t, together(g), api.Plan{
		Addr: []int{base, base, base, base + 3, base + 3, base + 3},
		Outs: [8]api.Out{
			out(base, 0, 0, 4096), out(base, 0, 0, 4), out(base, 0, 0, 1), out(base, 0, 0, 1), out(base, 0, 0, 1),
			out(base, page, 3, 1), out(base+3, 0, 0, 512), out(base+3, 0, 0, 4096),
		},
		Entry: base,
		End:   base + 3,
	})
	mustPlan(t, together(graph(code(1024, 0), fixed(1, 5), data(1, 1))), api.Plan{
		Addr: []int{base + 5, base, base + page},
		Outs: [8]api.Out{
			out(base, page, 5, 1), out(base+5, page+5, 0, 1), out(base+5, page+5, 0, 1), out(base+5, page+5, 0, 1), out(base+5, page+5, 0, 1),
			out(base+5, 0, 0, 1024), out(base+page, 2*page, 1, 1), out(base+page+1, 2*page+1, 0, 1),
		},
		Entry: base + 5,
		End:   base + page + 1,
	})
	mustPlan(t, together(graph(code(16, 0))), api.Plan{
		Addr: []int{base},
		Outs: [8]api.Out{
			out(base, 0, 0, 1), out(base, 0, 0, 1), out(base, 0, 0, 1), out(base, 0, 0, 1), out(base, 0, 0, 1),
			out(base, 0, 0, 16), out(base, 0, 0, 1), out(base, 0, 0, 1),
		},
		Entry: base,
		End:   base,
	})
}

// P16.1: output sections of Size 0 ahead of, between and behind others of their segment begin at their own Align's place.
func TestSectionsWithoutBytes(t *testing.T) {
	empty := func(ent, align int) api.Node {
		n := entry(align, ent, 0)
		n.Size, n.Data = 0, nil
		return n
	}
	ahead := together(graph(fixed(4096, 0), entry(4, 4, 1))).hold(t)
	if ahead.Outs[0] != out(base, page, 0, 4096) || ahead.Outs[1] != out(base, page, 4, 4) || ahead.End != base+4 {
		t.Errorf("ahead: %+v", ahead)
	}
	mustPlan(t, together(graph(fixed(1, 3), empty(4, 4096), entry(8, 8, 1), empty(16, 16), text("a\x00"))), api.Plan{
		Addr: []int{base, base + page, base + page, base + page + 16, base + page + 16},
		Outs: [8]api.Out{
			out(base, page, 3, 1), out(base+page, 2*page, 0, 4096), out(base+page, 2*page, 8, 8), out(base+page+16, 2*page+16, 0, 16), out(base+page+16, 2*page+16, 2, 1),
			out(base+page+18, 0, 0, 1), out(base+page+18, 0, 0, 1), out(base+page+18, 0, 0, 1),
		},
		Entry: base,
		End:   base + page + 18,
	})
	// Behind all bytes: the end is where it is, and so begins the next segment behind it, in the file, too.
	behind := graph(fixed(1, 3), changed(text(""), 4096), code(1, 1), data(1, 5), zeros(4096, 0))
	mustPlan(t, together(behind), api.Plan{
		Addr: []int{base, base + page, base + page, base + 2*page, base + 3*page},
		Outs: [8]api.Out{
			out(base, page, 3, 1), out(base+3, page+3, 0, 1), out(base+3, page+3, 0, 1), out(base+3, page+3, 0, 1), out(base+page, 2*page, 0, 4096),
			out(base+page, 2*page, 1, 1), out(base+2*page, 3*page, 5, 1), out(base+3*page, 4*page, 0, 4096),
		},
		Entry: base,
		End:   base + 3*page,
	})
}

// changed tells a node of another Align.
func changed(n api.Node, align int) api.Node {
	n.Align = align
	return n
}

// P16.1: the third segment: NoBits alone, behind Write, and Write without NoBits.
func TestThirdSegment(t *testing.T) {
	got := together(graph(code(1, 1), zeros(64, 70))).hold(t)
	if got.Outs[6] != out(base+page, 2*page, 0, 1) || got.Outs[7] != out(base+page, 2*page, 70, 64) || got.End != base+page+70 || got.Addr[1] != base+page {
		t.Errorf("NoBits alone: %+v", got)
	}
	got = together(graph(code(1, 1), zeros(64, 70), data(4, 3))).hold(t)
	if got.Outs[6] != out(base+page, 2*page, 3, 4) || got.Outs[7] != out(base+page+64, 2*page+64, 70, 64) || got.End != base+page+134 || got.Addr[1] != base+page+64 {
		t.Errorf("NoBits behind Write: %+v", got)
	}
	got = together(graph(code(1, 1), data(4, 3))).hold(t)
	if got.Outs[6] != out(base+page, 2*page, 3, 4) || got.Outs[7] != out(base+page+3, 2*page+3, 0, 1) || got.End != base+page+3 {
		t.Errorf("Write without NoBits: %+v", got)
	}
	got = together(graph(code(1, 1), data(4, 0), zeros(1, 3))).hold(t)
	if got.Outs[6] != out(base+page, 2*page, 0, 4) || got.Outs[7] != out(base+page, 2*page, 3, 1) {
		t.Errorf("NoBits beside Write of no bytes: %+v", got)
	}
}

// P16.1: the first segment begins at the first page behind the head in the file, others behind the bytes ahead of them.
func TestPlacesInTheFile(t *testing.T) {
	for _, c := range []struct{ fixed, code, data, second, third int }{
		{1, 1, 1, 2 * page, 3 * page},
		{page - 1, 1, 1, 2 * page, 3 * page},
		{page, 1, 1, 2 * page, 3 * page},
		{page + 1, 1, 1, 3 * page, 4 * page},
		{1, page, page, 2 * page, 3 * page},
		{1, page + 1, page, 2 * page, 4 * page},
		{3 * page, 2*page + 1, 1, 4 * page, 7 * page},
	} {
		got := together(graph(fixed(1, c.fixed), code(1, c.code), data(1, c.data), zeros(1, 9))).hold(t)
		if got.Outs[0].Off != page || got.Outs[5].Off != c.second || got.Outs[6].Off != c.third || got.Outs[7].Off != c.third+c.data {
			t.Errorf("of %v places are %+v", c, got.Outs)
		}
		// Nothing else stands in the file between, so that a place is as far from the first as the address.
		for k, o := range got.Outs {
			if o.Off-page != o.Addr-base {
				t.Errorf("of %v output section %d is %+v", c, k, o)
			}
		}
	}
}

// P16.1: Aligns of 1 to 4096 with odd sizes, counted from the section's beginning.
func TestAligns(t *testing.T) {
	for _, make := range []func(align, size int) api.Node{fixed, code, data, zeros} {
		for align := 1; align <= 4096; align *= 2 {
			for _, size := range []int{0, 1, 3, 17, 4095, 4096, 4097} {
				g := graph(make(1, size), make(align, 1), make(2, 5), make(align, size), make(1, 0), make(align, 0))
				got := together(g).hold(t)
				k := outOf(g.Nodes[0])
				from := got.Outs[k].Addr
				second := from + up(size, align)
				third := from + up(second-from+1, 2)
				fourth := from + up(third-from+5, align)
				fifth := fourth + size
				want := []int{from, second, third, fourth, fifth, from + up(fifth-from, align)}
				if !slices.Equal(got.Addr, want) || got.Outs[k].Align != max(align, 2) {
					t.Errorf("of Align %d and %d bytes addresses are %v; want %v", align, size, got.Addr, want)
				}
			}
		}
	}
}

// P16.1: a node of Size 0 stands where its Align divides next, and the output section ends there.
func TestNodesWithoutBytes(t *testing.T) {
	got := together(graph(code(1, 1), code(16, 0), code(1, 0), code(1, 1), code(32, 0))).hold(t)
	if !slices.Equal(got.Addr, []int{base, base + 16, base + 16, base + 16, base + 32}) || got.Outs[5] != out(base, page, 32, 32) || got.End != base+32 {
		t.Errorf("%+v", got)
	}
	got = together(graph(code(4096, 0), code(4096, 0), code(1, 1))).hold(t)
	if !slices.Equal(got.Addr, []int{base, base, base}) || got.Outs[5] != out(base, page, 1, 4096) {
		t.Errorf("%+v", got)
	}
}

// P16.1: what isn't kept is nowhere, and takes no place, nor tells its Align.
func TestNotKept(t *testing.T) {
	g := graph(code(1, 3), code(64, 100), code(2, 4), zeros(1024, api.MaxAddr), fixed(8, 8))
	p := together(g)
	p.kept = but(g, 1, 3)
	got := p.hold(t)
	if !slices.Equal(got.Addr, []int{base + page, -1, base + page + 4, -1, base}) || got.Outs[5] != out(base+page, 2*page, 8, 2) || got.Outs[7].Align != 1 {
		t.Errorf("%+v", got)
	}
	p.kept = but(g, 1, 2, 3, 4)
	if got = p.hold(t); !slices.Equal(got.Addr, []int{base, -1, -1, -1, -1}) || got.End != base+3 {
		t.Errorf("%+v", got)
	}
}

// P16.1: what stands in another node is at its address, and At more; it takes no place.
func TestJoined(t *testing.T) {
	g := begun(4, 0, graph(text("c\x00"), text("abc\x00"), text("bc\x00"), text("abc\x00"), code(1, 1), entry(4, 4, 1), entry(4, 4, 1), text("zc\x00")))
	p := pressed(g, all(g))
	if !slices.Equal(p.spots, []join.Spot{spot(1, 2), spot(1, 0), spot(1, 1), spot(1, 0), spot(4, 0), spot(5, 0), spot(5, 0), spot(7, 0)}) {
		t.Fatalf("Spots are %v", p.spots)
	}
	mustPlan(t, p, api.Plan{
		Addr: []int{base + 6, base + 4, base + 5, base + 4, base + page, base, base, base + 8},
		Outs: [8]api.Out{
			out(base, page, 0, 1), out(base, page, 4, 4), out(base+4, page+4, 0, 1), out(base+4, page+4, 0, 1), out(base+4, page+4, 7, 1),
			out(base+page, 2*page, 1, 1), out(base+page+1, 0, 0, 1), out(base+page+1, 0, 0, 1),
		},
		Entry: base + page,
		End:   base + page + 1,
	})
	p = pressed(g, but(g, 1))
	if got := p.hold(t); !slices.Equal(got.Addr, []int{base + 6, -1, base + 5, base + 4, base + page, base, base, base + 8}) {
		t.Errorf("%+v", got)
	}
}

// P16.1: whose face is another node is at that one's address; it takes no place.
func TestFolded(t *testing.T) {
	g := graph(code(4, 3), code(4, 5), code(4, 3), code(4, 3), code(4, 5), data(4, 3), data(4, 3))
	p := pressed(g, all(g))
	if !slices.Equal(p.faces, []int{0, 1, 0, 0, 1, 5, 6}) {
		t.Fatalf("faces are %v", p.faces)
	}
	mustPlan(t, p, api.Plan{
		Addr: []int{base, base + 4, base, base, base + 4, base + page, base + page + 4},
		Outs: [8]api.Out{
			out(base, 0, 0, 1), out(base, 0, 0, 1), out(base, 0, 0, 1), out(base, 0, 0, 1), out(base, 0, 0, 1),
			out(base, page, 9, 4), out(base+page, 2*page, 7, 4), out(base+page+7, 2*page+7, 0, 1),
		},
		Entry: base,
		End:   base + page + 7,
	})
	p = pressed(g, but(g, 0), 3)
	if got := p.hold(t); !slices.Equal(got.Addr[:5], []int{-1, base, base + 8, base + 12, base}) {
		t.Errorf("%+v", got)
	}
}

// P16.1: the entry's address is that of where its node stands, and At more, also at its end or beyond.
func TestEntry(t *testing.T) {
	g := graph(code(4, 3), code(4, 5), code(4, 3), text("ab\x00"), text("b\x00"), zeros(1, 7))
	for to, addr := range []int{base + page, base + page + 4, base + page, base, base + 1, base + 2*page} {
		for _, at := range []int{0, 1, g.Nodes[to].Size, g.Nodes[to].Size + 9, -1, 1 << 40} {
			begin := begun(to, at, g)
			if got := pressed(begin, all(g)).hold(t); got.Entry != addr+at {
				t.Errorf("the entry %d, %d is at %d; want %d", to, at, got.Entry, addr+at)
			}
		}
	}
}

// P16.1: pieces by Strings and Ent, each in its output section; of Strings Ent isn't asked, nor is Ent of what is no piece.
func TestOutputSectionsOfPieces(t *testing.T) {
	for _, c := range []struct {
		n    api.Node
		want int
	}{
		{entry(1, 4, 1), 1}, {entry(4, 4, 1), 1}, {entry(1, 8, 1), 2}, {entry(16, 16, 1), 3}, {text("a\x00"), 4}, {text(""), 4},
		{with(text("a\x00"), 4), 4}, {with(text("a\x00"), 16), 4}, {with(code(1, 8), 4), 5}, {with(fixed(1, 8), 8), 0}, {with(data(1, 8), 16), 6}, {with(zeros(1, 8), 4), 7},
		{fixed(1, 1), 0}, {sized(api.Strings, 1, 1), 0}, {sized(api.Retain|api.Order|api.Grouped, 1, 1), 0},
		{sized(api.Exec|api.Strings, 1, 1), 5}, {sized(api.Exec|api.Retain|api.Grouped|api.Order, 1, 1), 5},
		{sized(api.Write|api.Strings, 1, 1), 6}, {sized(api.Write|api.Retain|api.Grouped|api.Order, 1, 1), 6},
	} {
		for k, o := range together(graph(c.n)).hold(t).Outs {
			if (o.Size == c.n.Size) != (k == c.want) && c.n.Size > 0 {
				t.Errorf("%+v: output section %d is %+v", c.n, k, o)
			}
		}
	}
}

// with tells a node of another Ent.
func with(n api.Node, ent int) api.Node {
	n.Ent = ent
	return n
}

// P16.1: Alloc isn't asked: what is a node is laid.
func TestAllocIsNotAsked(t *testing.T) {
	for _, n := range []api.Node{fixed(1, 3), code(1, 3), data(1, 3), zeros(1, 3), text("ab\x00")} {
		n.Flags &^= api.Alloc
		if got := together(graph(n)).hold(t); got.End != base+3 {
			t.Errorf("%+v: %+v", n, got)
		}
	}
}

// top is how far addresses go.
const top = 2147483648

// P16.1: the end at just MaxAddr + 1, and one above.
func TestErrLarge(t *testing.T) {
	got := together(graph(zeros(1, top-base))).hold(t)
	if got.End != top {
		t.Errorf("%+v", got)
	}
	mustBeLarge(t, together(graph(zeros(1, top-base+1))))
	mustBeLarge(t, together(graph(zeros(1, api.MaxAddr))))
	if got = together(graph(code(1, 1), zeros(1, top-base-page))).hold(t); got.End != top || got.Addr[1] != base+page {
		t.Errorf("%+v", got)
	}
	mustBeLarge(t, together(graph(code(1, 1), zeros(1, top-base-page+1))))
	if got = together(graph(zeros(1, top-base-16), zeros(16, 15), zeros(1, 1))).hold(t); got.End != top {
		t.Errorf("%+v", got)
	}
	mustBeLarge(t, together(graph(zeros(1, top-base-15), zeros(16, 0))).shifted(1))
	if got = together(graph(zeros(1, top-base-15), zeros(16, 0))).hold(t); got.End != top || got.Addr[1] != top {
		t.Errorf("%+v", got)
	}
	mustBeLarge(t, together(graph(zeros(1, top-base), data(1, 1))))
	if got = together(graph(zeros(1, top-base), data(16, 0), code(1, 0))).hold(t); got.End != top {
		t.Errorf("%+v", got)
	}
	mustBeLarge(t, together(graph(zeros(1, top-base), code(16, 0), fixed(1, 1))))
}

// shifted tells a graph with one more node of so many bytes behind all others.
func (p plain) shifted(more int) plain {
	return together(graph(append(slices.Clone(p.g.Nodes), zeros(1, more))...))
}

// P16.1: sums beyond 2^31, 2^32 and more turn nothing over, wherever they would.
func TestGreatSums(t *testing.T) {
	for _, many := range []int{2, 3, 4, 5, 8, 9, 16, 1000} {
		for _, size := range []int{api.MaxAddr, api.MaxAddr - 1, 1 << 30, 1<<31 - 4096, 1<<31 - base} {
			for _, align := range []int{1, 2, 4096} {
				g := graph(code(1, 1))
				for range many {
					g.Nodes = append(g.Nodes, zeros(align, size))
				}
				mustBeLarge(t, together(g))
				mustBeLarge(t, together(begun(many, api.MaxAddr, g)))
			}
		}
	}
	// All nodes that aren't kept, folded or joined count for nothing.
	p := together(graph(code(1, 1), zeros(1, api.MaxAddr), zeros(1, api.MaxAddr), zeros(1, 5)))
	p.kept = but(p.g, 1, 2)
	if got := p.hold(t); got.End != base+page+5 {
		t.Errorf("%+v", got)
	}
}

// P16.1: as many nodes as objects can make.
func TestAsManyAsMayBe(t *testing.T) {
	var g api.Graph
	for i := range 8 * api.MaxObj {
		g.Nodes = append(g.Nodes, text(string([]byte{byte(1 + i%255), byte(1 + i/255%255), byte(1 + i/65025), 0})))
	}
	g.Nodes = append(g.Nodes, text("\x00"))
	p := together(g)
	got, err := p.place()
	if err != nil || got.End != base+4*8*api.MaxObj+1 || got.Addr[1000] != base+4000 {
		t.Errorf("the end is %d, %v", got.End, err)
	}
	p = pressed(g, all(g))
	got, err = p.place()
	if err != nil || got.End != base+4*8*api.MaxObj || got.Addr[1000] != base+4000 || got.Addr[len(got.Addr)-1] != base+3 {
		t.Errorf("the end is %d, %v", got.End, err)
	}
}

// P16.1: what this layer doesn't look at may be any.
func TestWhatIsNotLookedAt(t *testing.T) {
	g := begun(2, 1, graph(zeros(32, 100), data(8, 10), code(16, 7), text("abc\x00"), entry(8, 16, 1), fixed(2, 3), code(16, 7), text("bc\x00")))
	p := pressed(g, all(g))
	want := p.hold(t)
	for _, any := range []int{-1, 0, 1, 3, math.MaxInt, math.MinInt} {
		for i := range g.Nodes {
			n := &g.Nodes[i]
			n.Obj, n.Sec, n.Pos, n.Name, n.Data, n.Edges = any, any, any, "any", nil, []api.Edge{{Off: any, To: any}}
			n.Unique, n.Group, n.Link = i%2 == 0, any, any
		}
		p.g.Names = []api.Name{{Name: "x", To: any, At: any}}
		mustPlan(t, p, want)
	}
}
