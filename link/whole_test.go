package link_test

import (
	"bytes"
	"math/big"
	"reflect"
	"slices"
	"testing"

	"fishplate/api"
	"fishplate/exec"
	"fishplate/link"
	"fishplate/rela"
)

// linked is what is linked in one way.
type linked struct {
	o     api.Opts
	r     link.Result
	image []byte
	code  api.Code
	x     exec.Image
}

// linkAll links in all eight ways; it holds T1.
func linkAll(t *testing.T, l [][]byte, o api.Opts) []linked {
	t.Helper()
	var all []linked
	for _, o := range ways(o) {
		r, b, code := hold(t, l, o)
		again, err := link.Link(l, o)
		if !isCode(err, code) || !bytes.Equal(again, b) {
			t.Fatalf("whoever asks again is told %v; want %v", err, code)
		}
		x := linked{o: o, r: r, image: b, code: code}
		if code == 0 {
			x.x, err = exec.Load(b)
			if err != nil {
				t.Fatalf("of %q, %+v no image is told", l, o)
			}
		}
		for _, s := range x.x.Segs {
			if s.Addr%4096 != 0 {
				t.Fatalf("a segment begins at %d", s.Addr)
			}
		}
		all = append(all, x)
	}
	return all
}

// mustGoTogether holds T3, as far as no machine is asked: with an image in the first way there is one in all, or ErrRange.
func mustGoTogether(t *testing.T, all []linked) {
	t.Helper()
	if all[0].code != 0 {
		return
	}
	for _, x := range all {
		if x.code != 0 && x.code != api.ErrRange {
			t.Fatalf("with %+v there is %v", x.o, x.code)
		}
		if !reflect.DeepEqual(x.r.Graph, all[0].r.Graph) || !slices.Equal(x.r.Roots, all[0].r.Roots) {
			t.Fatalf("with %+v the graph is %+v; want %+v", x.o, x.r.Graph, all[0].r.Graph)
		}
	}
}

// reached tells by the words of T4 and of layer 13 what roots reach.
func reached(g api.Graph, roots []int) []bool {
	kept := make([]bool, len(g.Nodes))
	for _, r := range roots {
		kept[r] = true
	}
	for again := true; again; {
		again = false
		for a, n := range g.Nodes {
			for b, m := range g.Nodes {
				goes := slices.ContainsFunc(n.Edges, func(e api.Edge) bool { return e.To == b })
				grouped := n.Group != 0 && n.Group == m.Group
				ordered := m.Flags&api.Order != 0 && m.Link == n.Sec && m.Obj == n.Obj
				if kept[a] && !kept[b] && (goes || grouped || ordered) {
					kept[b], again = true, true
				}
			}
		}
	}
	return kept
}

// alikeAtOnce tells whether two nodes that are eligible are alike at once.
func alikeAtOnce(a, b api.Node) bool {
	if a.Flags != b.Flags || a.Align != b.Align || !bytes.Equal(a.Data, b.Data) || len(a.Edges) != len(b.Edges) {
		return false
	}
	for i, e := range a.Edges {
		f := b.Edges[i]
		if e.Off != f.Off || e.Type != f.Type || e.Add != f.Add || e.At != f.At || (e.To < 0) != (f.To < 0) {
			return false
		}
	}
	return true
}

// alikeForGood tells which nodes are alike for good.
func alikeForGood(r link.Result) map[[2]int]bool {
	related := map[[2]int]bool{}
	eligible := func(i int) bool {
		n := r.Graph.Nodes[i]
		return r.Kept[i] && n.Flags&api.Exec != 0 && !n.Unique && !slices.Contains(r.Roots, i)
	}
	for a, n := range r.Graph.Nodes {
		for b, m := range r.Graph.Nodes {
			if eligible(a) && eligible(b) && alikeAtOnce(n, m) {
				related[[2]int{a, b}] = true
			}
		}
	}
	for again := true; again; {
		again = false
		for p := range related {
			for i, e := range r.Graph.Nodes[p[0]].Edges {
				to := r.Graph.Nodes[p[1]].Edges[i].To
				if e.To >= 0 && r.Spots[e.To] != r.Spots[to] && !related[[2]int{e.To, to}] {
					delete(related, p)
					again = true
				}
			}
		}
	}
	return related
}

// mustKeepApart holds T4.
func mustKeepApart(t *testing.T, x linked) {
	t.Helper()
	g := x.r.Graph
	want := slices.Repeat([]bool{true}, len(g.Nodes))
	if x.o.GC {
		want = reached(g, x.r.Roots)
	}
	if !slices.Equal(x.r.Kept, want) {
		t.Fatalf("with %+v of %+v is kept: %v; want %v", x.o, g, x.r.Kept, want)
	}
	alike := map[[2]int]bool{}
	if x.o.Fold {
		alike = alikeForGood(x.r)
	}
	for a, n := range g.Nodes {
		for b, m := range g.Nodes {
			if !x.r.Kept[a] || !x.r.Kept[b] {
				continue
			}
			one := x.r.Plan.Addr[a] == x.r.Plan.Addr[b]
			code := n.Flags&m.Flags&api.Exec != 0 && n.Size > 0 && m.Size > 0
			if code && one != (a == b || alike[[2]int{a, b}]) {
				t.Fatalf("with %+v nodes %d and %d of %+v begin at one address: %v", x.o, a, b, g, one)
			}
			pieces := n.Flags&m.Flags&api.Merge != 0 && (n.Flags^m.Flags)&api.Strings == 0 && n.Ent == m.Ent
			if x.o.Join && pieces && bytes.Equal(n.Data, m.Data) && !one {
				t.Fatalf("with %+v pieces %d and %d of %+v stand at two addresses", x.o, a, b, g)
			}
		}
	}
}

// stands tells an image's bytes from an address on, as many as are asked for and are in the file.
func stands(x exec.Image, addr, size int) []byte {
	for _, s := range x.Segs {
		if addr >= s.Addr && addr+size <= s.Addr+len(s.Data) {
			return s.Data[addr-s.Addr:][:size]
		}
	}
	return nil
}

// value tells the bytes that stand where an edge is, which is at an address.
func value(e api.Edge, at int, p api.Plan) []byte {
	v := big.NewInt(int64(e.At))
	if e.To >= 0 {
		v.Add(v, big.NewInt(int64(p.Addr[e.To])))
	}
	v.Add(v, big.NewInt(int64(e.Add)))
	if e.Type == api.RPC32 || e.Type == api.RPLT32 {
		v.Sub(v, big.NewInt(int64(at)))
	}
	width := rela.Width(e.Type)
	v.And(v, new(big.Int).Sub(new(big.Int).Lsh(big.NewInt(1), uint(8*width)), big.NewInt(1)))
	b := v.FillBytes(make([]byte, width))
	slices.Reverse(b)
	return b
}

// mustStand holds T5, and of T4 that each piece's bytes are where it stands.
func mustStand(t *testing.T, x linked) {
	t.Helper()
	for i, n := range x.r.Graph.Nodes {
		at := x.r.Plan.Addr[i]
		isPiece := x.r.Kept[i] && n.Flags&api.Merge != 0
		if x.r.Laid[i] && n.Size > 0 && at%n.Align != 0 {
			t.Fatalf("with %+v node %d of %+v is at %d", x.o, i, x.r.Graph, at)
		}
		if !x.r.Laid[i] && !isPiece || len(n.Data) == 0 {
			continue
		}
		want := slices.Clone(n.Data)
		for _, e := range n.Edges {
			copy(want[e.Off:], value(e, at+e.Off, x.r.Plan))
		}
		if got := stands(x.x, at, len(want)); !bytes.Equal(got, want) {
			t.Fatalf("with %+v where node %d of %+v is stands %q; want %q", x.o, i, x.r.Graph, got, want)
		}
	}
}

// outOf tells in which output section a node is laid.
func outOf(n api.Node) int {
	switch {
	case n.Type == api.NoBits:
		return 7
	case n.Flags&api.Strings != 0:
		return 4
	case n.Flags&api.Merge != 0:
		return map[int]int{4: 1, 8: 2, 16: 3}[n.Ent]
	case n.Flags&api.Exec != 0:
		return 5
	case n.Flags&api.Write != 0:
		return 6
	}
	return 0
}

// up counts on till a number divides.
func up(at, by int) int { return (at + by - 1) / by * by }

// end tells the last address of what is laid.
func end(r link.Result) int {
	size, align := [8]int{}, [8]int{1, 1, 1, 1, 1, 1, 1, 1}
	for i, n := range r.Graph.Nodes {
		if r.Laid[i] {
			k := outOf(n)
			align[k] = max(align[k], n.Align)
			size[k] = up(size[k], n.Align) + n.Size
		}
	}
	last := 4194304
	for _, s := range [][]int{{0, 1, 2, 3, 4}, {5}, {6, 7}} {
		if !slices.ContainsFunc(s, func(k int) bool { return size[k] > 0 }) {
			continue
		}
		last = up(last, 4096)
		for _, k := range s {
			last = up(last, align[k]) + size[k]
		}
	}
	return last
}

// mustShrink holds T6: nothing gets greater with any of GC, Join and Fold; nor by Join and Fold with whatever else.
// (By GC beside one of these something can: where it leaves out the first one of those that are alike, another one is laid, elsewhere.)
func mustShrink(t *testing.T, l [][]byte, all []linked) {
	t.Helper()
	for _, x := range all {
		r, code := plainChoice(l, x.o)
		if code == 0 && (x.r.Plan.End == 0) != (end(r) > 1<<31) {
			t.Fatalf("with %+v the last address would be %d: %+v", x.o, end(r), x.r.Plan)
		}
	}
	for way, x := range all {
		mustBeNoGreater(t, x, all[0])
		mustBeNoGreater(t, x, all[way&^2])
		mustBeNoGreater(t, x, all[way&^4])
	}
}

// mustBeNoGreater holds that nothing is greater in one way than in another one.
func mustBeNoGreater(t *testing.T, x, than linked) {
	t.Helper()
	if than.r.Plan.End == 0 {
		return
	}
	for k, o := range x.r.Plan.Outs {
		if o.Size > than.r.Plan.Outs[k].Size {
			t.Fatalf("with %+v output section %d is %+v; with %+v %+v", x.o, k, o, than.o, than.r.Plan.Outs[k])
		}
	}
	if x.r.Plan.End > than.r.Plan.End || x.r.Plan.End == 0 {
		t.Fatalf("with %+v the end is %d; with %+v %d", x.o, x.r.Plan.End, than.o, than.r.Plan.End)
	}
}

// mustHoldOfAll holds T1 and T3 to T6, and tells what is linked in all ways.
func mustHoldOfAll(t *testing.T, l [][]byte, o api.Opts) []linked {
	t.Helper()
	all := linkAll(t, l, o)
	mustGoTogether(t, all)
	for _, x := range all {
		if x.r.Plan.End != 0 {
			mustKeepApart(t, x)
		}
		if x.code == 0 {
			mustStand(t, x)
		}
	}
	mustShrink(t, l, all)
	return all
}

// T1, T3 to T6: the samples, and many lists of small objects, in all eight ways.
func TestOfAllOfIt(t *testing.T) {
	for _, h := range samples(t) {
		mustHoldOfAll(t, h.objs, h.opts)
	}
	c := counter(1)
	met := map[api.Code]int{}
	for range 800 {
		for _, x := range mustHoldOfAll(t, c.objects(t), c.opts()) {
			met[x.code]++
		}
	}
	if met[0] < 3000 || min(met[api.ErrLarge], met[api.ErrRange], met[api.ErrForm]) < 20 {
		t.Errorf("met: %v", met)
	}
}

// T3, T6: what is too large, or too far, in one way, but not in another one.
func TestErrorsThatGo(t *testing.T) {
	huge := object(secs(code("x"), zeros(1<<31-1)), global("f", 1, 0))
	// What is named is just so far away that it may be, with nothing between; with the data it isn't.
	far := object(secs(code("", rel(0, api.R32S, 1, 1<<31-1-0x401000)), data("12345678"), zeros(4)), local(3, 0), global("f", 1, 0))
	// And the other way: what GC leaves out makes an address smaller, so that a sum is below 0.
	near := object(secs(code("", rel(0, api.R32, 1, -0x402000)), fixed("12345678"), data("1")), local(3, 0), global("f", 1, 0))
	for _, c := range []struct {
		o        api.Obj
		code, gc api.Code
	}{{huge, api.ErrLarge, 0}, {far, api.ErrRange, 0}, {near, 0, api.ErrRange}} {
		for _, x := range mustHoldOfAll(t, put(t, c.o), at("f")) {
			want := c.code
			if x.o.GC {
				want = c.gc
			}
			if x.code != want {
				t.Errorf("with %+v there is %v; want %v", x.o, x.code, want)
			}
		}
	}
}
