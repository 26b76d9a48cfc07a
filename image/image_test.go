package image_test

import (
	"bytes"
	"math"
	"slices"
	"strings"
	"testing"

	"fishplate/api"
	"fishplate/image"
)

// first64 are the first bytes of an image without segments, its entry base.
var first64 = []byte{
	127, 69, 76, 70, 2, 1, 1, 0, 0, 0, 0, 0, 0, 0, 0, 0,
	2, 0, 62, 0, 1, 0, 0, 0, 0, 0, 64, 0, 0, 0, 0, 0,
	64, 0, 0, 0, 0, 0, 0, 0, 0, 0, 0, 0, 0, 0, 0, 0,
	0, 0, 0, 0, 64, 0, 56, 0, 0, 0, 0, 0, 0, 0, 0, 0,
}

// The document's example: a plan without segments.
func TestExample(t *testing.T) {
	for _, x := range []planned{whole(t, code(1, "")), whole(t, fixed(16, ""), zeros(4096, 0), data(1, ""), text(""))} {
		b := x.hold(t)
		if len(b) != 64 {
			t.Errorf("%d bytes", len(b))
		}
		if !bytes.Equal(b, first64) {
			t.Errorf("%v; want %v", b, first64)
		}
	}
}

// P18.1: each of the first 64 bytes, by itself, with segments and without.
func TestFirstBytes(t *testing.T) {
	for way := range 8 {
		x := ways(t, way)
		b := x.hold(t)
		for i, want := range first64 {
			if i == 56 {
				want = byte(way&1 + way>>1&1 + way>>2&1)
			}
			if i >= 24 && i < 32 {
				want = byte(x.p.Entry >> (8 * (i - 24)))
			}
			if b[i] != want {
				t.Errorf("of segments %b byte %d is %d; want %d", way, i, b[i], want)
			}
		}
	}
}

// ways tells a graph of which segments have bytes by three bits; its first node has none.
func ways(t *testing.T, way int) planned {
	t.Helper()
	l := []api.Node{code(1, "")}
	for s, n := range []api.Node{fixed(4, "fixed"), code(8, "text"), data(16, "data")} {
		if way>>s&1 != 0 {
			l = append(l, n)
		}
	}
	return whole(t, l...)
}

// P18.1: the entry's eight bytes, whatever it is.
func TestEntry(t *testing.T) {
	for _, at := range []int{0, 1, 255, 256, 1 << 20, 1 << 31, 1 << 40, math.MaxInt - base, -1, -base - 1} {
		g := graph(code(1, "abc"))
		g.At = at
		b := apart(t, g, all(g)).hold(t)
		if got := get(b, 24, 8); got != base+at {
			t.Errorf("the entry is %d; want %d", got, base+at)
		}
	}
}

// P18.1: each number of a segment's 56 bytes, in all eight ways, by hand.
func TestSegmentNumbers(t *testing.T) {
	for way := range 8 {
		b := ways(t, way).hold(t)
		many := 0
		end := 0
		for s, size := range []int{5, 4, 4} {
			if way>>s&1 == 0 {
				continue
			}
			h := b[64+56*many:]
			place, addr := page*(many+1), base+page*many
			for _, f := range []struct{ at, width, want int }{
				{0, 4, 1}, {4, 4, 4 + s}, {8, 8, place}, {16, 8, addr}, {24, 8, addr}, {32, 8, size}, {40, 8, size}, {48, 8, 4096},
			} {
				if got := get(h, f.at, f.width); got != f.want {
					t.Errorf("of segments %b the number at %d of segment %d is %d; want %d", way, f.at, s, got, f.want)
				}
			}
			many++
			end = place + size
		}
		if way != 0 && len(b) != end {
			t.Errorf("of segments %b there are %d bytes; want %d", way, len(b), end)
		}
	}
}

// P18.1: an image of three segments, whole, by hand: what is between is 0.
func TestWholeImage(t *testing.T) {
	x := whole(t, code(4, "ab"), data(2, "xyz"), text("s\x00"), fixed(1, "f"), code(4, "cde"), entry(4, "1234"), zeros(32, 5))
	b := x.hold(t)
	want := make([]byte, 3*page+3)
	copy(want, first64)
	put(want, 24, 8, base+page)
	want[56] = 3
	for i, l := range [][]int{{4, page, base, 10, 10}, {5, 2 * page, base + page, 7, 7}, {6, 3 * page, base + 2*page, 3, 37}} {
		h := want[64+56*i:]
		put(h, 0, 4, 1)
		put(h, 4, 4, l[0])
		put(h, 8, 8, l[1])
		put(h, 16, 8, l[2])
		put(h, 24, 8, l[2])
		put(h, 32, 8, l[3])
		put(h, 40, 8, l[4])
		put(h, 48, 8, 4096)
	}
	copy(want[page:], "f\x00\x00\x001234s\x00")
	copy(want[2*page:], "ab\x00\x00cde")
	copy(want[3*page:], "xyz")
	if !bytes.Equal(b, want) {
		t.Errorf("%q; want %q", brief(b), brief(want))
	}
}

// P18.1: the third segment: NoBits alone ends the image at its place; Write and NoBits; Write alone.
func TestThirdSegment(t *testing.T) {
	for _, c := range []struct {
		nodes         []api.Node
		many          int
		inFile, inAll int
	}{
		{[]api.Node{code(1, "c"), zeros(1, 9)}, 2, 0, 9},
		{[]api.Node{code(1, "c"), zeros(64, 9)}, 2, 0, 9},
		{[]api.Node{code(1, "c"), data(64, ""), zeros(1, 9)}, 2, 0, 9},
		{[]api.Node{code(1, "c"), data(1, "ab"), zeros(64, 9)}, 2, 2, 73},
		{[]api.Node{code(1, "c"), data(1, "ab"), zeros(1, 9)}, 2, 2, 11},
		{[]api.Node{code(1, "c"), data(1, "ab"), zeros(64, 0)}, 2, 2, 64},
		{[]api.Node{code(1, "c"), data(1, "ab"), data(16, "")}, 2, 16, 16},
		{[]api.Node{code(1, "c"), data(1, "ab")}, 2, 2, 2},
	} {
		b := whole(t, c.nodes...).hold(t)
		h := b[64+56:]
		if get(b, 56, 2) != c.many || get(h, 4, 4) != 6 || get(h, 8, 8) != 2*page || get(h, 32, 8) != c.inFile || get(h, 40, 8) != c.inAll || len(b) != 2*page+c.inFile {
			t.Errorf("%+v: %q", c.nodes, brief(b))
		}
	}
	alone := whole(t, zeros(1, 9)).hold(t)
	if len(alone) != page || get(alone, 56, 2) != 1 || get(alone, 64+8, 8) != page || get(alone, 64+32, 8) != 0 {
		t.Errorf("%q", brief(alone))
	}
	if slices.ContainsFunc(alone[120:], func(c byte) bool { return c != 0 }) {
		t.Errorf("%q", brief(alone))
	}
}

// P18.1: NoBits of great sizes have no bytes in the file.
func TestGreatZeros(t *testing.T) {
	b := whole(t, data(1, "ab"), zeros(4096, 1<<31-base-page)).hold(t)
	if len(b) != page+2 || get(b, 64+32, 8) != 2 || get(b, 64+40, 8) != 1<<31-base {
		t.Errorf("%d bytes", len(b))
	}
}

// P18.1: output sections of Size 0, at their segment's beginning, in its middle, and at its end, count to where the last one ends.
func TestSectionsWithoutBytes(t *testing.T) {
	empty := func(ent, align int) api.Node {
		n := entry(align, "")
		n.Ent = ent
		return n
	}
	long := text("")
	long.Align = 4096
	for _, c := range []struct {
		nodes  []api.Node
		inFile int
	}{
		{[]api.Node{fixed(4096, ""), text("ab\x00")}, 3},
		{[]api.Node{fixed(1, "abc"), empty(4, 4096), text("ab\x00")}, page + 3},
		{[]api.Node{fixed(1, "abc"), empty(16, 4096)}, page},
		{[]api.Node{fixed(1, "abc"), long}, page},
		{[]api.Node{fixed(1, "abc"), long, empty(8, 8), empty(16, 16)}, page},
		{[]api.Node{fixed(1, "abc"), fixed(4096, "")}, page},
		{[]api.Node{fixed(1, ""), long, entry(4, "1234")}, page},
	} {
		for _, more := range [][]api.Node{nil, {code(1, "c")}, {data(1, "d"), zeros(1, 1)}} {
			b := whole(t, append(slices.Clone(c.nodes), more...)...).hold(t)
			if get(b, 64+32, 8) != c.inFile || get(b, 64+40, 8) != c.inFile || more == nil && len(b) != page+c.inFile {
				t.Errorf("%+v: %q", c.nodes, brief(b))
			}
		}
	}
}

// P18.1: what isn't laid stands nowhere: it isn't kept, or stands in another node, or has another face.
func TestNotLaid(t *testing.T) {
	g := graph(code(1, "same"), text("bc\x00"), text("abc\x00"), code(1, "same"), code(1, "gone"), data(1, "data"), data(1, "data"), text("abc\x00"))
	x := pressed(t, g, but(g, 4))
	b := x.hold(t)
	for s, many := range map[string]int{"same": 1, "gone": 0, "data": 2, "abc\x00": 1, "bc\x00": 1} {
		if got := bytes.Count(b, []byte(s)); got != many {
			t.Errorf("%q stands %d times", s, got)
		}
	}
	// Of a plan without them, what is told to be laid alone stands there.
	x = apart(t, g, all(g))
	for i := range g.Nodes {
		one := planned{g, x.p, but(g, i)}
		b := one.hold(t)
		if at := standsAt(b, x.p.Addr[i], len(g.Nodes[i].Data)); slices.ContainsFunc(at, func(c byte) bool { return c != 0 }) {
			t.Errorf("node %d, which isn't laid, stands there: %q", i, at)
		}
	}
	none := planned{g, x.p, make([]bool, len(g.Nodes))}
	if b := none.hold(t); slices.ContainsFunc(b[64+3*56:], func(c byte) bool { return c != 0 }) {
		t.Errorf("no node is laid, but there is %q", brief(b))
	}
}

// P18.1: edges have their values, by layer 17: at a node's address, by others' addresses.
func TestEdges(t *testing.T) {
	g := graph(
		code(16, "call....lea.....", edge(4, api.RPC32, -4, 1, 0), edge(12, api.RPLT32, -4, 3, 1)),
		code(16, "abs.....", edge(4, api.R32S, 1, 2, 3)),
		data(8, "........n...", edge(0, api.R64, 2, 0, 5), edge(8, api.R32, 0, -1, 77)),
		text("str\x00"),
		zeros(4, 40),
		data(1, "....", edge(0, api.R32, 8, 4, 0)),
	)
	b := apart(t, g, all(g)).hold(t)
	for _, c := range []struct{ addr, width, want int }{
		{base + page + 4, 4, 8}, {base + page + 12, 4, 1<<32 - page - 15}, {base + page + 20, 4, base + 2*page + 4},
		{base + 2*page, 8, base + page + 7}, {base + 2*page + 8, 4, 77}, {base + 2*page + 12, 4, base + 2*page + 16 + 8},
	} {
		if got := get(standsAt(b, c.addr, c.width), 0, c.width); got != c.want {
			t.Errorf("at %d stands %d; want %d", c.addr, got, c.want)
		}
	}
}

// P18.1: edges to what stands in another node, or has another face, go where that is.
func TestEdgesToWhatIsNotLaid(t *testing.T) {
	g := graph(
		data(1, strings.Repeat(".", 32), edge(0, api.R64, 0, 1, 0), edge(8, api.R64, 0, 2, 1), edge(16, api.R64, 0, 3, 0), edge(24, api.R64, 0, 4, 0)),
		text("c\x00"), text("abc\x00"), code(1, "f"), code(1, "f"),
	)
	b := pressed(t, g, all(g)).hold(t)
	for i, want := range []int{base + 2, base + 1, base + page, base + page} {
		if got := get(standsAt(b, base+2*page, 32), 8*i, 8); got != want {
			t.Errorf("edge %d is %d; want %d", i, got, want)
		}
	}
}

// P18.1: the first error of layer 17, node by node that is laid; of what isn't laid none is asked.
func TestErrors(t *testing.T) {
	far := edge(0, api.R32, 1<<40, -1, 0)
	lost := edge(0, api.R32, 0, 0, 0) // to a node that isn't kept
	for _, make := range []func(align int, b string, edges ...api.Edge) api.Node{fixed, code, data} {
		g := graph(data(1, "gone"), make(1, "fine", edge(0, api.R32, 0, -1, 5)), make(1, "far.", far), make(1, "lost", lost), make(1, "both....", far, edge(4, api.R32, 0, 0, 0)))
		g.To = 1
		x := apart(t, g, but(g, 0))
		x.mustFail(t, api.ErrRange)
		for _, c := range []struct {
			out  []int
			want api.Code
		}{
			{[]int{0, 2}, api.ErrArg}, {[]int{0, 3}, api.ErrRange}, {[]int{0, 2, 3}, api.ErrRange}, {[]int{0, 4}, api.ErrRange}, {[]int{0, 2, 4}, api.ErrArg}, {[]int{0, 3, 4}, api.ErrRange}, {[]int{0, 2, 3, 4}, 0},
		} {
			some := planned{g, x.p, but(g, c.out...)}
			if c.want != 0 {
				some.mustFail(t, c.want)
			} else {
				some.hold(t)
			}
		}
		turned := graph(g.Nodes[0], g.Nodes[3], g.Nodes[2])
		turned.To = 1
		apart(t, turned, but(turned, 0)).mustFail(t, api.ErrArg)
	}
}

// P18.1: values that fit or don't by where the plan lays nodes.
func TestErrorsByThePlan(t *testing.T) {
	const most = 1<<31 - base - page // what NoBits may have behind code
	g := graph(code(1, "....", edge(0, api.R32S, 0, 1, most)), zeros(1, most))
	apart(t, g, all(g)).mustFail(t, api.ErrRange)
	g.Nodes[0].Edges[0].At--
	if got := get(standsAt(apart(t, g, all(g)).hold(t), base, 4), 0, 4); got != 1<<31-1 {
		t.Errorf("the edge is %d", got)
	}
}

// P18.1: Data and Edges of nodes alone are looked at, and the plan.
func TestWhatIsNotLookedAt(t *testing.T) {
	x := whole(t, code(4, "ab..", edge(0, api.R32, 1, 1, 1)), data(2, "xyz"), text("s\x00"), zeros(32, 5))
	want := x.hold(t)
	for _, any := range []int{-1, 0, 1, 8, math.MaxInt, math.MinInt} {
		for i := range x.g.Nodes {
			n := &x.g.Nodes[i]
			n.Obj, n.Sec, n.Pos, n.Type, n.Flags, n.Align, n.Ent, n.Size, n.Group, n.Link = any, any, any, any, any, any, any, any, any, any
			n.Name, n.Unique = "any", any > 0
		}
		x.g.To, x.g.At, x.g.Names = any, any, []api.Name{{To: any, At: any}}
		if got, err := x.write(); err != nil || !bytes.Equal(got, want) {
			t.Errorf("by %d it is %q, %v", any, brief(got), err)
		}
	}
}

// P1: as many nodes as objects can make.
func TestAsManyAsMayBe(t *testing.T) {
	var g api.Graph
	for i := range 8 * api.MaxObj {
		g.Nodes = append(g.Nodes, text(string([]byte{byte(1 + i%255), 0})))
	}
	b, err := image.Write(g, apart(t, g, all(g)).p, all(g))
	if err != nil || len(b) != page+16*api.MaxObj || b[page+2000] != byte(1+1000%255) {
		t.Errorf("%d bytes, %v", len(b), err)
	}
}
