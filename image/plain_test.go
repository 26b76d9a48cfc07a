package image_test

import (
	"bytes"
	"errors"
	"slices"
	"testing"

	"fishplate/api"
	"fishplate/fix"
	"fishplate/fold"
	"fishplate/image"
	"fishplate/join"
	"fishplate/layout"
)

const (
	base = 4194304
	page = 4096
)

// filled tells a node of ProgBits, of some bytes and edges.
func filled(flags, align int, b string, edges ...api.Edge) api.Node {
	return api.Node{Type: api.ProgBits, Flags: api.Alloc | flags, Align: align, Size: len(b), Data: []byte(b), Edges: edges}
}

// These tell nodes of the output sections 0, 4, 1 to 3, 5, 6 and 7.
func fixed(align int, b string, edges ...api.Edge) api.Node { return filled(0, align, b, edges...) }
func text(b string) api.Node {
	n := filled(api.Merge|api.Strings, 1, b)
	n.Ent = 1
	return n
}
func entry(align int, b string) api.Node {
	n := filled(api.Merge, align, b)
	n.Ent = len(b)
	return n
}
func code(align int, b string, edges ...api.Edge) api.Node {
	return filled(api.Exec, align, b, edges...)
}
func data(align int, b string, edges ...api.Edge) api.Node {
	return filled(api.Write, align, b, edges...)
}
func zeros(align, size int) api.Node {
	return api.Node{Type: api.NoBits, Flags: api.Alloc | api.Write, Align: align, Size: size}
}

// edge tells an edge.
func edge(off, typ, add, to, at int) api.Edge {
	return api.Edge{Off: off, Type: typ, Add: add, To: to, At: at}
}

// graph tells a graph of nodes, its entry in the first one.
func graph(nodes ...api.Node) api.Graph { return api.Graph{Nodes: nodes} }

// all tells of each node of a graph that it is kept, or laid.
func all(g api.Graph) []bool { return slices.Repeat([]bool{true}, len(g.Nodes)) }

// but tells the same, but for some.
func but(g api.Graph, out ...int) []bool {
	kept := all(g)
	for _, i := range out {
		kept[i] = false
	}
	return kept
}

// planned is a graph, a plan of it, and which nodes are laid.
type planned struct {
	g    api.Graph
	p    api.Plan
	laid []bool
}

// plan tells a graph's plan, of what is kept, of Spots and faces.
func plan(t *testing.T, g api.Graph, kept []bool, spots []join.Spot, faces []int) planned {
	t.Helper()
	p, err := layout.Place(g, kept, spots, faces)
	if err != nil {
		t.Fatalf("%+v has no plan: %v", g, err)
	}
	laid := make([]bool, len(g.Nodes))
	for i := range laid {
		laid[i] = kept[i] && faces[i] == i && spots[i].Node == i
	}
	return planned{g, p, laid}
}

// apart tells the plan of a graph of which nothing is joined or folded.
func apart(t *testing.T, g api.Graph, kept []bool) planned {
	t.Helper()
	spots, faces := make([]join.Spot, len(g.Nodes)), make([]int, len(g.Nodes))
	for i := range g.Nodes {
		spots[i].Node, faces[i] = i, i
	}
	return plan(t, g, kept, spots, faces)
}

// whole tells the plan of a graph of which all is kept, and stands alone.
func whole(t *testing.T, nodes ...api.Node) planned {
	t.Helper()
	g := graph(nodes...)
	return apart(t, g, all(g))
}

// pressed tells the plan of a graph, joined and folded.
func pressed(t *testing.T, g api.Graph, kept []bool) planned {
	t.Helper()
	spots := join.Join(g, kept)
	return plan(t, g, kept, spots, fold.Fold(g, kept, nil, spots))
}

// put lays a number at a place.
func put(b []byte, at, width int, v int) {
	for i := range width {
		b[at+i] = byte(v >> (8 * i))
	}
}

// get tells the number at a place.
func get(b []byte, at, width int) int {
	v := 0
	for i := range width {
		v |= int(b[at+i]) << (8 * i)
	}
	return v
}

// stretch is a segment, as the chapter tells it.
type stretch struct{ flags, place, addr, inFile, inAll int }

// stretches tells the segments that have bytes.
func stretches(p api.Plan) []stretch {
	var l []stretch
	for s, outs := range [][]api.Out{p.Outs[0:5], p.Outs[5:6], p.Outs[6:8]} {
		if !slices.ContainsFunc(outs, func(o api.Out) bool { return o.Size != 0 }) {
			continue
		}
		last := outs[len(outs)-1]
		x := stretch{flags: 4 + s, place: outs[0].Off, addr: outs[0].Addr, inAll: last.Addr + last.Size - outs[0].Addr}
		if s == 2 {
			last = outs[0]
		}
		x.inFile = last.Addr + last.Size - x.addr
		l = append(l, x)
	}
	return l
}

// plainHead tells the first 64 bytes.
func plainHead(entry, segments int) []byte {
	b := make([]byte, 64)
	copy(b, "\x7fELF\x02\x01\x01")
	put(b, 16, 2, 2)
	put(b, 18, 2, 62)
	put(b, 20, 4, 1)
	put(b, 24, 8, entry)
	put(b, 32, 8, 64)
	put(b, 52, 2, 64)
	put(b, 54, 2, 56)
	put(b, 56, 2, segments)
	return b
}

// plain tells the image by the chapter's words, and the error; 0: there is none.
func (x planned) plain() ([]byte, api.Code) {
	l := stretches(x.p)
	b := plainHead(x.p.Entry, len(l))
	for _, s := range l {
		h := make([]byte, 56)
		put(h, 0, 4, 1)
		put(h, 4, 4, s.flags)
		put(h, 8, 8, s.place)
		put(h, 16, 8, s.addr)
		put(h, 24, 8, s.addr)
		put(h, 32, 8, s.inFile)
		put(h, 40, 8, s.inAll)
		put(h, 48, 8, 4096)
		b = append(b, h...)
	}
	for _, s := range l {
		for len(b) < s.place+s.inFile {
			b = append(b, 0)
		}
	}
	for i, n := range x.g.Nodes {
		if !x.laid[i] {
			continue
		}
		d, err := fix.Data(n, x.p.Addr[i], x.p.Addr)
		if err != nil {
			return nil, err.(api.Code)
		}
		for k, c := range d {
			for _, s := range l {
				if at := x.p.Addr[i] + k; at >= s.addr && at < s.addr+s.inFile {
					b[s.place+at-s.addr] = c
				}
			}
		}
	}
	return b, 0
}

// write asks for the image.
func (x planned) write() ([]byte, error) { return image.Write(x.g, x.p, x.laid) }

// isCode tells whether an error is a Code itself; 0: whether it is none.
func isCode(err error, code api.Code) bool {
	if code == 0 {
		return err == nil
	}
	if err != code || !errors.Is(err, code) {
		return false
	}
	for other := api.ErrArg; other <= api.ErrLarge; other++ {
		if other != code && errors.Is(err, other) {
			return false
		}
	}
	return true
}

// hold holds the image, asked twice, against the plain reading, and P18.3; it tells it.
func (x planned) hold(t *testing.T) []byte {
	t.Helper()
	want, code := x.plain()
	for range 2 {
		if got, err := x.write(); !bytes.Equal(got, want) || !isCode(err, code) {
			t.Fatalf("Write(%+v, %+v, %v) = %v, %v; want %v, %v", x.g, x.p, x.laid, brief(got), err, brief(want), code)
		}
	}
	if code == 0 {
		x.mustStand(t, want)
	}
	return want
}

// brief tells bytes without most zeros.
func brief(b []byte) string {
	return string(bytes.ReplaceAll(b, make([]byte, 64), []byte("..")))
}

// mustFail holds that there is an error, and nothing beside it.
func (x planned) mustFail(t *testing.T, code api.Code) {
	t.Helper()
	if got, err := x.write(); len(got) != 0 || !isCode(err, code) {
		t.Errorf("Write(%+v, %+v, %v) = %v, %v; want %v", x.g, x.p, x.laid, brief(got), err, code)
	}
	x.hold(t)
}

// mustStand holds P18.3: each laid node's bytes stand where the plan tells, as the image itself tells where that is.
func (x planned) mustStand(t *testing.T, b []byte) {
	t.Helper()
	for i, n := range x.g.Nodes {
		if !x.laid[i] || len(n.Data) == 0 {
			continue
		}
		want, _ := fix.Data(n, x.p.Addr[i], x.p.Addr)
		if got := standsAt(b, x.p.Addr[i], len(want)); !bytes.Equal(got, want) {
			t.Fatalf("node %d of %+v should stand at %d as %v; there stands %v", i, x.g, x.p.Addr[i], want, got)
		}
	}
}

// standsAt tells so many bytes at an address of an image.
func standsAt(b []byte, addr, size int) []byte {
	for s := range get(b, 56, 2) {
		h := b[64+56*s:]
		if from := get(h, 16, 8); addr >= from && addr+size <= from+get(h, 32, 8) {
			at := get(h, 8, 8) + addr - from
			return b[at : at+size]
		}
	}
	return nil
}

// counter counts on, by a fixed rule, and tells numbers below another one by where it is.
type counter uint64

func (c *counter) next(below int) int {
	*c = *c*6364136223846793005 + 1442695040888963407
	return int(*c>>33) % below
}
