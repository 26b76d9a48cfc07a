package link_test

import (
	"bytes"
	"reflect"
	"slices"
	"strings"
	"testing"

	"fishplate/api"
	"fishplate/link"
	"fishplate/obj"
)

// counter counts on, by a fixed rule, and tells numbers below another one by where it is.
type counter uint64

func (c *counter) next(below int) int {
	*c = *c*6364136223846793005 + 1442695040888963407
	return int(*c>>33) % below
}

// sec tells a section by where the counter is.
func (c *counter) sec() api.Sec {
	switch c.next(9) {
	case 0:
		return zeros([]int{c.next(99), c.next(99), 1 << 30}[c.next(3)])
	case 1, 2:
		return texts([]string{"", "\x00", "b\x00ab\x00", "ab\x00ab\x00", "cb\x00"}[c.next(5)])
	case 3:
		s := fixed([]string{"0123", "01234567", "4567"}[c.next(3)])
		s.Name, s.Flags, s.Align, s.Ent = ".cst", api.Alloc|api.Merge, 4, 4
		return s
	case 4:
		return comment("c")
	case 5:
		return data("datadatadatadata"[:c.next(17)])
	case 6:
		return fixed("fixedfixed"[:c.next(11)])
	}
	return code("samesame"[:4*c.next(3)])
}

// rels tells the relocations of a section of so many bytes, of an object with so many symbols.
func (c *counter) rels(size, syms int) []api.Rel {
	var l []api.Rel
	for off := 4 * c.next(2); off+8 <= size && c.next(4) > 0; off += 8 {
		add := c.next(5) - 2
		if c.next(150) == 0 {
			add = 1 << 40
		}
		l = append(l, rel(off, []int{api.R64, api.RPC32, api.RPLT32, api.R32, api.R32S}[c.next(5)], c.next(syms), add))
	}
	return l
}

// object tells an object by where the counter is.
func (c *counter) object() api.Obj {
	var l []api.Sec
	for range 1 + c.next(5) {
		l = append(l, c.sec())
	}
	if c.next(3) == 0 {
		l = append(l, code("same"), code("same"))
	}
	var locals, others []api.Sym
	for range c.next(6) {
		sec := 1 + c.next(len(l))
		y := api.Sym{Name: "abcdf"[c.next(5):][:1], Sec: sec, Value: c.next(l[sec-1].Size + 1)}
		switch c.next(5) {
		case 0, 1:
			locals = append(locals, y)
			continue
		case 2:
			y.Bind = api.Global
		default:
			y.Bind = api.Weak
		}
		if y.Bind == api.Weak && c.next(5) == 0 || c.next(60) == 0 {
			y.Sec, y.Value = 0, 0
		}
		others = append(others, y)
	}
	o := object(l, slices.Concat(locals, others)...)
	for i, s := range l {
		if s.Type == api.ProgBits && s.Flags&api.Merge == 0 {
			if c.next(3) > 0 {
				l[i].Rels = c.rels(s.Size, len(o.Syms))
			}
		}
		if link := 1 + c.next(len(l)); link != i+1 && c.next(6) == 0 {
			l[i].Flags, l[i].Link = l[i].Flags|api.Order, link
		}
		if c.next(20) == 0 {
			l[i].Flags |= api.Retain
		}
	}
	if len(o.Syms) > 1 && c.next(6) == 0 {
		o = grouped(1+c.next(len(o.Syms)-1), o)
	}
	o.HasSig = c.next(4) > 0
	return o
}

// objects tells the bytes of some objects by where the counter is; a byte of them is turned now and then.
func (c *counter) objects(t *testing.T) [][]byte {
	t.Helper()
	l := []api.Obj{object(secs(code("", rel(0, api.R32, 0, 0), rel(4, api.R64, 1+c.next(3), 0), rel(12, api.R32S, 1+c.next(3), 0))), weak("a", 0, 0), weak("b", 0, 0), weak("c", 0, 0), weak("f", 1, 0))}
	l[0].HasSig = c.next(2) == 0
	for range c.next(4) {
		l = append(l, c.object())
	}
	all := put(t, l...)
	if c.next(40) == 0 {
		b := all[c.next(len(all))]
		b[c.next(len(b))] ^= 1 << c.next(8)
	}
	return all
}

// opts tells Opts by where the counter is.
func (c *counter) opts() api.Opts {
	o := at("f")
	if c.next(30) == 0 {
		o.Entry = "x"
	}
	for range c.next(3) {
		o.Need = append(o.Need, "abcdf"[c.next(5):][:1])
	}
	for range c.next(5) / 3 {
		o.Keep = append(o.Keep, []string{".text", ".d*", ".?tr", "*s*", ""}[c.next(5)])
	}
	return o
}

// P20.1, P20.2, P20.4: many lists of small objects, in all eight ways.
func TestCountedObjects(t *testing.T) {
	var c counter
	met := map[api.Code]int{}
	left := map[string]int{}
	for range 2000 {
		l, o := c.objects(t), c.opts()
		for _, o := range ways(o) {
			r, _, code := hold(t, l, o)
			met[code]++
			if code != 0 {
				continue
			}
			for i, kept := range r.Kept {
				if !kept {
					left["not kept"]++
				}
				if r.Faces[i] != i {
					left["folded"]++
				}
				if r.Spots[i].Node != i {
					left["joined"]++
				}
			}
		}
	}
	for _, code := range []api.Code{api.ErrForm, api.ErrDup, api.ErrUndef, api.ErrReloc, api.ErrEntry, api.ErrRange, api.ErrLarge} {
		if met[code] < 30 {
			t.Errorf("met: %v", met)
		}
	}
	if met[0] < 8000 || min(left["not kept"], left["folded"], left["joined"]) < 300 {
		t.Errorf("met: %v, left out: %v", met, left)
	}
}

// P1, P20.4: each bit of some objects turned.
func TestEachBitTurned(t *testing.T) {
	like := put(t, mixed()...)
	for k, b := range like {
		for i := range b {
			for bit := range 8 {
				l := slices.Clone(like)
				l[k] = slices.Clone(b)
				l[k][i] ^= 1 << bit
				hold(t, l, api.Opts{GC: bit&1 != 0, Join: bit&2 != 0, Fold: bit&4 != 0, Entry: "f"})
			}
		}
	}
}

// putBig tells the bytes of an object with as many nodes as may be, or nearly so, and how many these are.
func putBig(t *testing.T) ([]byte, int) {
	t.Helper()
	const many = 16000 - 600
	o := object(secs(texts(strings.Repeat("\x00", many))), weak("t", 1, 0))
	b := put(t, o)[0]
	if len(b) > api.MaxObj {
		t.Fatalf("%d bytes", len(b))
	}
	return b, many
}

// P1: as much as may be, in all eight ways.
func TestAsMuchAsMayBe(t *testing.T) {
	big, many := putBig(t)
	l := append(slices.Repeat([][]byte{big}, 7), put(t, one())[0])
	o := api.Opts{Entry: "f", Keep: slices.Repeat([]string{strings.Repeat("*a", 16)}, 16)}
	for _, o := range ways(o) {
		r, err := link.Explain(l, o)
		if err != nil || len(r.Graph.Nodes) != 7*many+1 {
			t.Fatalf("%d nodes, %v", len(r.Graph.Nodes), err)
		}
		b, err := link.Link(l, o)
		if err != nil || len(b) == 0 {
			t.Fatalf("%d bytes, %v", len(b), err)
		}
	}
}

// roomy tells a list in new memory that has room for some more, which are filled, so that it is to be seen whether they get written.
func roomy[T any](l []T, more T) []T {
	long := append(make([]T, 0, len(l)+3), l...)
	return append(long, more, more, more)[:len(l)]
}

// fill fills a list, also behind its end.
func fill[T any](l []T, with T) {
	l = l[:cap(l)]
	for i := range l {
		l[i] = with
	}
}

// handed is what is handed in.
type handed struct {
	objs [][]byte
	opts api.Opts
}

// copied tells what shares nothing with another.
func (h handed) copied() handed {
	h.objs = roomy(h.objs, []byte("more"))
	for i, b := range h.objs {
		h.objs[i] = roomy(b, 99)
	}
	h.opts.Need, h.opts.Keep = roomy(h.opts.Need, "more"), roomy(h.opts.Keep, "more")
	return h
}

// all tells all that there is, also what stands behind lists' ends.
func (h handed) all() []any {
	all := []any{h.objs[:cap(h.objs)], h.opts.Need[:cap(h.opts.Need)], h.opts.Keep[:cap(h.opts.Keep)], h.opts}
	for _, b := range h.objs {
		all = append(all, b[:cap(b)])
	}
	return all
}

// samples are lists of objects, and Opts, with an image and with each error.
func samples(t *testing.T) []handed {
	t.Helper()
	var l []handed
	for _, o := range ways(api.Opts{Entry: "f", Need: []string{"w"}, Keep: []string{".t*", "?data"}}) {
		l = append(l, handed{put(t, mixed()...), o})
	}
	for _, c := range causes(t) {
		o := at("f")
		c.opts(&o)
		l = append(l, handed{slices.Concat(put(t, one()), c.objs), o})
	}
	return l
}

// R2: nothing that is handed in is changed, also not behind its end, by Explain, Link, and a job.
func TestNothingHandedInIsChanged(t *testing.T) {
	for _, like := range samples(t) {
		h := like.copied()
		link.Explain(h.objs, h.opts)
		link.Link(h.objs, h.opts)
		j := link.New(h.objs, h.opts)
		j.Image()
		j.Image()
		if !reflect.DeepEqual(h.all(), like.copied().all()) {
			t.Errorf("%+v was changed to %+v", like, h)
		}
	}
}

// spoil changes all that a result has, also behind its lists' ends.
func spoil(r link.Result) {
	for _, n := range r.Graph.Nodes {
		fill(n.Data, 255)
		fill(n.Edges, api.Edge{To: 99})
	}
	fill(r.Graph.Nodes, api.Node{Name: "spoilt"})
	fill(r.Graph.Names, api.Name{Name: "spoilt"})
	fill(r.Roots, 99)
	fill(r.Kept, false)
	fill(r.Spots, r.Spots[0])
	fill(r.Faces, 99)
	fill(r.Laid, false)
	fill(r.Plan.Addr, 99)
}

// P20.3: what is told is new memory, whoever changes it; no answer hangs on others.
func TestAnswersAreNewMemory(t *testing.T) {
	for _, like := range samples(t)[:8] {
		want, _ := plain(like.objs, like.opts)
		wantImage, _ := plainImage(like.objs, like.opts)
		h := like.copied()
		first, _ := link.Explain(h.objs, h.opts)
		second, _ := link.Explain(h.objs, h.opts)
		firstImage, _ := link.Link(h.objs, h.opts)
		secondImage, _ := link.Link(h.objs, h.opts)
		spoil(first)
		fill(firstImage, 77)
		if !reflect.DeepEqual(h.all(), like.copied().all()) {
			t.Errorf("what was handed in was changed with an answer to %+v", h)
		}
		hold(t, h.objs, h.opts)
		for _, b := range h.objs {
			fill(b, 88)
		}
		fill(h.opts.Need, "z")
		if !same(second, want) || !bytes.Equal(secondImage, wantImage) {
			t.Errorf("an answer was changed to %+v; want %+v", second, want)
		}
	}
}

// P20.3: no two lists of one answer share any memory.
func TestListsOfAnAnswerShareNothing(t *testing.T) {
	for _, like := range samples(t)[:8] {
		want, _ := plain(like.objs, like.opts)
		for part := range 7 {
			r, _ := link.Explain(like.objs, like.opts)
			kept := r
			switch part {
			case 0:
				fill(r.Roots, 99)
				kept.Roots = want.Roots
			case 1:
				fill(r.Kept, false)
				kept.Kept = want.Kept
			case 2:
				fill(r.Spots, r.Spots[1])
				kept.Spots = want.Spots
			case 3:
				fill(r.Faces, 99)
				kept.Faces = want.Faces
			case 4:
				fill(r.Laid, false)
				kept.Laid = want.Laid
			case 5:
				fill(r.Plan.Addr, 99)
				kept.Plan.Addr = want.Plan.Addr
			case 6:
				fill(r.Graph.Nodes, api.Node{})
				fill(r.Graph.Names, api.Name{})
				kept.Graph = want.Graph
			}
			if !same(kept, want) {
				t.Errorf("part %d shares memory: %+v; want %+v", part, kept, want)
			}
		}
	}
}

// P20.1: what is linked is what objects are, whatever bytes they are of: put again they are linked likewise.
func TestObjectsPutAgain(t *testing.T) {
	var c counter
	for range 300 {
		l, o := c.objects(t), c.opts()
		again := slices.Clone(l)
		ok := true
		for i, b := range l {
			x, err := obj.Get(b)
			ok = ok && err == nil && obj.May(x)
			if ok {
				again[i], _ = obj.Put(x)
			}
		}
		if !ok {
			continue
		}
		b, err := link.Link(l, o)
		if other, otherErr := link.Link(again, o); !bytes.Equal(b, other) || (err == nil) != (otherErr == nil) {
			t.Errorf("%q, %+v", l, o)
		}
	}
}
