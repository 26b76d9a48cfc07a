package layout_test

import (
	"errors"
	"reflect"
	"slices"
	"testing"

	"fishplate/api"
	"fishplate/fold"
	"fishplate/join"
	"fishplate/layout"
)

// sized tells a node of ProgBits, of so many bytes.
func sized(flags, align, size int) api.Node {
	return api.Node{Type: api.ProgBits, Flags: api.Alloc | flags, Align: align, Size: size, Data: make([]byte, size)}
}

// These tell a node for each output section: 0, 5, 6, 7, 4, and one of 1 to 3.
func fixed(align, size int) api.Node { return sized(0, align, size) }
func code(align, size int) api.Node  { return sized(api.Exec, align, size) }
func data(align, size int) api.Node  { return sized(api.Write, align, size) }
func zeros(align, size int) api.Node {
	return api.Node{Type: api.NoBits, Flags: api.Alloc | api.Write, Align: align, Size: size}
}
func text(b string) api.Node {
	n := sized(api.Merge|api.Strings, 1, len(b))
	n.Ent, n.Data = 1, []byte(b)
	return n
}
func entry(align, ent int, b byte) api.Node {
	n := sized(api.Merge, align, ent)
	n.Ent, n.Data = ent, slices.Repeat([]byte{b}, ent)
	return n
}

// one tells a node for an output section, of so many bytes (a piece: of its own ones), aligned to 1.
func one(out, size int) api.Node {
	switch out {
	case 0:
		return fixed(1, size)
	case 1, 2, 3:
		return entry(1, 2<<out, byte(size))
	case 4:
		return text(string([]byte{byte(size), 1, 0}))
	case 5:
		return code(1, size)
	case 6:
		return data(1, size)
	}
	return zeros(1, size)
}

// graph tells a graph of nodes, its entry in the first one.
func graph(nodes ...api.Node) api.Graph { return api.Graph{Nodes: nodes} }

// begun tells a graph with its entry elsewhere.
func begun(to, at int, g api.Graph) api.Graph {
	g.To, g.At = to, at
	return g
}

// all tells of each node of a graph that it is kept.
func all(g api.Graph) []bool { return slices.Repeat([]bool{true}, len(g.Nodes)) }

// but tells of each node of a graph that it is kept, but for some.
func but(g api.Graph, out ...int) []bool {
	kept := all(g)
	for _, i := range out {
		kept[i] = false
	}
	return kept
}

// alone tells the Spots of nodes that aren't joined, and own the faces of nodes that aren't folded.
func alone(g api.Graph) []join.Spot {
	l := make([]join.Spot, len(g.Nodes))
	for i := range l {
		l[i].Node = i
	}
	return l
}
func own(g api.Graph) []int {
	l := make([]int, len(g.Nodes))
	for i := range l {
		l[i] = i
	}
	return l
}

// spot tells a Spot.
func spot(node, at int) join.Spot { return join.Spot{Node: node, At: at} }

// out tells an output section.
func out(addr, off, size, align int) api.Out {
	return api.Out{Addr: addr, Off: off, Size: size, Align: align}
}

// plain is a graph with what is kept, its Spots and faces.
type plain struct {
	g     api.Graph
	kept  []bool
	spots []join.Spot
	faces []int
}

// together tells a graph of which all is kept and stands alone.
func together(g api.Graph) plain { return plain{g, all(g), alone(g), own(g)} }

// pressed tells a graph, joined and folded.
func pressed(g api.Graph, kept []bool, roots ...int) plain {
	spots := join.Join(g, kept)
	return plain{g, kept, spots, fold.Fold(g, kept, roots, spots)}
}

// outOf tells in which output section a node stands, by the chapter's words.
func outOf(n api.Node) int {
	is := func(flag int) bool { return n.Flags&flag != 0 }
	l := [8]bool{
		!is(api.Merge) && !is(api.Exec) && !is(api.Write),
		is(api.Merge) && !is(api.Strings) && n.Ent == 4,
		is(api.Merge) && !is(api.Strings) && n.Ent == 8,
		is(api.Merge) && !is(api.Strings) && n.Ent == 16,
		is(api.Merge) && is(api.Strings),
		is(api.Exec),
		is(api.Write) && n.Type == api.ProgBits,
		n.Type == api.NoBits,
	}
	return slices.Index(l[:], true)
}

// isLaid tells whether a node is laid, by the chapter's words.
func (p plain) isLaid(i int) bool {
	return p.kept[i] && p.faces[i] == i && p.spots[i].Node == i
}

// up counts on till a number divides.
func up(at, by int) int {
	for at%by != 0 {
		at++
	}
	return at
}

// plan tells the plan by the chapter's words, be its end too great or not.
func (p plain) plan() api.Plan {
	plan := api.Plan{Addr: make([]int, len(p.g.Nodes)), End: 4194304}
	for k := range plan.Outs {
		plan.Outs[k].Align = 1
		size := 0
		for i, n := range p.g.Nodes {
			if p.isLaid(i) && outOf(n) == k {
				plan.Outs[k].Align = max(plan.Outs[k].Align, n.Align)
				plan.Addr[i] = up(size, n.Align)
				size = plan.Addr[i] + n.Size
			}
		}
		plan.Outs[k].Size = size
	}
	p.addresses(&plan)
	for i, n := range p.g.Nodes {
		if p.isLaid(i) {
			plan.Addr[i] += plan.Outs[outOf(n)].Addr
		}
	}
	for i := range p.g.Nodes {
		switch s := p.spots[i]; {
		case !p.kept[i]:
			plan.Addr[i] = -1
		case p.faces[i] != i:
			plan.Addr[i] = plan.Addr[p.faces[i]]
		case s.Node != i:
			plan.Addr[i] = plan.Addr[s.Node] + s.At
		}
	}
	plan.Entry = plan.Addr[p.g.To] + p.g.At
	return plan
}

// addresses tells where a plan's output sections begin, and where in the file.
func (p plain) addresses(plan *api.Plan) {
	segments := [][]int{{0, 1, 2, 3, 4}, {5}, {6, 7}}
	place := 64
	for _, s := range segments {
		if slices.ContainsFunc(s, func(k int) bool { return plan.Outs[k].Size != 0 }) {
			place += 56
		}
	}
	for _, s := range segments {
		if !slices.ContainsFunc(s, func(k int) bool { return plan.Outs[k].Size != 0 }) {
			for _, k := range s {
				plan.Outs[k].Addr = plan.End
			}
			continue
		}
		from := up(plan.End, 4096)
		place = up(place, 4096)
		plan.End = from
		bytes := from
		for _, k := range s {
			plan.Outs[k].Addr = up(plan.End, plan.Outs[k].Align)
			plan.Outs[k].Off = plan.Outs[k].Addr - from + place
			plan.End = plan.Outs[k].Addr + plan.Outs[k].Size
			if k != 7 {
				bytes = plan.End
			}
		}
		place += bytes - from
	}
}

// isCode tells whether an error is a Code itself; 0: whether it is none.
func isCode(err error, code api.Code) bool {
	if code == 0 {
		return err == nil
	}
	if err != code || !errors.Is(err, code) {
		return false
	}
	for other := api.ErrArg; other <= api.ErrLarge; other++ {
		if other != code && errors.Is(err, other) {
			return false
		}
	}
	return true
}

// same tells whether two plans are one, be lists of no elements nil or not.
func same(a, b api.Plan) bool {
	addr := slices.Equal(a.Addr, b.Addr)
	a.Addr, b.Addr = nil, nil
	return addr && reflect.DeepEqual(a, b)
}

// place asks for the plan.
func (p plain) place() (api.Plan, error) { return layout.Place(p.g, p.kept, p.spots, p.faces) }

// mustPlan holds the plan, asked twice, against the one that it should be, and against the plain reading.
func mustPlan(t *testing.T, p plain, want api.Plan) {
	t.Helper()
	for range 2 {
		if got, err := p.place(); err != nil || !same(got, want) {
			t.Errorf("Place(%+v, %v, %v, %v) = %+v, %v; want %+v", p.g, p.kept, p.spots, p.faces, got, err, want)
		}
	}
	if got := p.plan(); !same(got, want) {
		t.Errorf("the plain reading of %+v, %v, %v, %v tells %+v; want %+v", p.g, p.kept, p.spots, p.faces, got, want)
	}
	mustFollow(t, p, want)
}

// mustBeLarge holds that a plan's end is too great, and nothing is told beside the error.
func mustBeLarge(t *testing.T, p plain) {
	t.Helper()
	for range 2 {
		if got, err := p.place(); !isCode(err, api.ErrLarge) || !same(got, api.Plan{}) {
			t.Errorf("Place(%+v) = %+v, %v", p.g, got, err)
		}
	}
}

// mustFollow holds P16.3: of laid nodes no two have a byte in common, and each one's Align divides its address.
func mustFollow(t *testing.T, p plain, plan api.Plan) {
	t.Helper()
	type bytes struct{ from, to int }
	var l []bytes
	for i, n := range p.g.Nodes {
		if !p.isLaid(i) {
			continue
		}
		k := outOf(n)
		at, o := plan.Addr[i], plan.Outs[k]
		if at < o.Addr || at+n.Size > o.Addr+o.Size {
			t.Fatalf("node %d of %+v isn't in its output section: %+v", i, p.g, plan)
		}
		first, behind := segmentOf(k)
		isEmpty := true
		for _, o := range plan.Outs[first:behind] {
			isEmpty = isEmpty && o.Size == 0
		}
		if !isEmpty && at%n.Align != 0 {
			t.Fatalf("the Align of node %d of %+v doesn't divide its address: %+v", i, p.g, plan)
		}
		if n.Size > 0 {
			l = append(l, bytes{at, at + n.Size})
		}
	}
	slices.SortFunc(l, func(a, b bytes) int { return a.from - b.from })
	for i := 1; i < len(l); i++ {
		if l[i].from < l[i-1].to {
			t.Fatalf("two nodes of %+v have a byte in common: %+v", p.g, plan)
		}
	}
}

// segmentOf tells the first output section of the segment of one, and the one behind its last one.
func segmentOf(out int) (int, int) {
	switch {
	case out < 5:
		return 0, 5
	case out == 5:
		return 5, 6
	}
	return 6, 8
}

// hold holds the plan against the plain reading, and what follows.
func (p plain) hold(t *testing.T) api.Plan {
	t.Helper()
	want := p.plan()
	got, err := p.place()
	if want.End > 2147483648 {
		if !isCode(err, api.ErrLarge) || !same(got, api.Plan{}) {
			t.Fatalf("Place(%+v) = %+v, %v; its end would be %d", p.g, got, err, want.End)
		}
		return want
	}
	if err != nil || !same(got, want) {
		t.Fatalf("Place(%+v, %v, %v, %v) = %+v, %v; want %+v", p.g, p.kept, p.spots, p.faces, got, err, want)
	}
	mustFollow(t, p, got)
	return got
}

// mustShrink holds that of fewer nodes no output section is greater, nor the end.
func mustShrink(t *testing.T, g api.Graph, more, fewer api.Plan) {
	t.Helper()
	for k := range more.Outs {
		if fewer.Outs[k].Size > more.Outs[k].Size {
			t.Fatalf("of fewer nodes of %+v an output section is greater: %+v; %+v", g, fewer, more)
		}
	}
	if fewer.End > more.End {
		t.Fatalf("of fewer nodes of %+v the end is greater: %+v; %+v", g, fewer, more)
	}
}

// counter counts on, by a fixed rule, and tells numbers below another one by where it is.
type counter uint64

func (c *counter) next(below int) int {
	*c = *c*6364136223846793005 + 1442695040888963407
	return int(*c>>33) % below
}
