package exec_test

import (
	"bytes"
	"math"
	"slices"
	"testing"

	"fishplate/api"
	"fishplate/exec"
	"fishplate/fold"
	"fishplate/image"
	"fishplate/join"
	"fishplate/layout"
)

// samples are images of all kinds.
func samples() [][]byte {
	return [][]byte{
		made(64),
		made(300, ordinary()),
		made(300, seg(4, 240, 100, 60, 60), seg(6, 0, 160, 0, 9)),
		made(400, told{1, 4, 256, 4096, 4096, 100, 100, 256}, told{1, 5, 100, 4196, 4196, 200, 210, 4096}, told{1, 6, 2, 8194, 8194, 60, 64, 64}),
		made(64+16*56, many(16)...),
	}
}

// P19.1: each byte of each image turned, one bit at a time.
func TestEachBitTurned(t *testing.T) {
	for _, like := range samples() {
		for i := range like {
			for bit := range 8 {
				b := slices.Clone(like)
				b[i] ^= 1 << bit
				if !isOpen(b) {
					hold(t, b)
				}
			}
		}
	}
}

// P19.1, P19.3: images turned in one or two numbers, or cut, by a fixed way of counting.
func TestCountedImages(t *testing.T) {
	numbers := []uint64{0, 1, 2, 4, 5, 6, 7, 60, 64, 100, 200, 256, 300, 400, 4096, 4196, top - 1, top, top + 1, 1 << 32, 1 << 63, math.MaxUint64}
	var c counter
	met := map[bool]int{}
	like := samples()
	for range 200000 {
		b := slices.Clone(like[c.next(len(like))])
		if c.next(9) == 0 {
			b = b[:c.next(len(b)+1)]
		}
		for range 1 + c.next(2) {
			segs := (min(len(b), 64+16*56) - 64) / 56
			v := numbers[c.next(len(numbers))] + uint64(c.next(3)) - 1
			switch where := c.next(12); {
			case len(b) < 64 || where == 0:
				for i := range min(len(b), 1) {
					b[c.next(len(b))] = byte(i + int(v))
				}
			case where == 1:
				put(b, 24, 8, v)
			case where == 2:
				put(b, 56, 2, v%20)
			case segs > 0:
				h := b[64+56*c.next(segs):]
				if field := c.next(7); field == 0 {
					put(h, 4*c.next(2), 4, v%9)
				} else if v >= top || c.next(2) == 0 {
					put(h, 8*field, 8, v)
				} else {
					put(h, 8*field, 8, get(h, 8*field, 8)+uint64(c.next(9))-4)
				}
				if c.next(3) == 0 {
					copy(h[24:32], h[16:24])
				}
			}
		}
		if !isOpen(b) {
			met[hold(t, b)]++
		}
	}
	if min(met[true], met[false]) < 20000 {
		t.Errorf("met: %v", met)
	}
}

// node tells a node by where the counter is, of a graph of so many.
func (c *counter) node(many int) api.Node {
	b := make([]byte, 8*c.next(3))
	for i := range b {
		b[i] = byte(c.next(256))
	}
	n := api.Node{Type: api.ProgBits, Flags: api.Alloc, Align: 1 << c.next(13), Size: len(b), Data: b}
	switch c.next(5) {
	case 0:
		n.Type, n.Flags, n.Size, n.Data = api.NoBits, api.Alloc|api.Write, c.next(1<<20), nil
		return n
	case 1:
		n.Flags |= api.Write
	case 2:
		n.Flags |= api.Exec
	case 3:
		n.Flags |= api.Merge | api.Strings
		n.Align, n.Ent = 1, 1
		return n
	}
	for off := 0; off < len(b); off += 8 {
		n.Edges = append(n.Edges, api.Edge{Off: off, Type: []int{api.R64, api.RPC32, api.R32}[c.next(3)], To: c.next(many)})
	}
	return n
}

// P19.1: all that layer 18 writes is loaded, and what is told of it is what was written.
func TestWhatIsWrittenIsLoaded(t *testing.T) {
	var c counter
	for range 4000 {
		var g api.Graph
		size := 1 + c.next(9)
		for range size {
			g.Nodes = append(g.Nodes, c.node(size))
		}
		g.To, g.At = c.next(size), c.next(5)
		kept, laid := slices.Repeat([]bool{true}, size), make([]bool, size)
		spots := join.Join(g, kept)
		faces := fold.Fold(g, kept, nil, spots)
		for i := range laid {
			laid[i] = spots[i].Node == i && faces[i] == i
		}
		p, err := layout.Place(g, kept, spots, faces)
		if err != nil {
			t.Fatal(err)
		}
		b, err := image.Write(g, p, laid)
		if err != nil {
			t.Fatal(err)
		}
		if !hold(t, b) {
			t.Fatalf("the image of %+v isn't loaded", g)
		}
		got, _ := exec.Load(b)
		mustBeWritten(t, g, p, got)
	}
}

// mustBeWritten holds what is told of an image against the plan by which it was written.
func mustBeWritten(t *testing.T, g api.Graph, p api.Plan, x exec.Image) {
	t.Helper()
	if x.Entry != p.Entry {
		t.Fatalf("the entry is %d; want %d", x.Entry, p.Entry)
	}
	var want []exec.Seg
	for s, outs := range [][]api.Out{p.Outs[0:5], p.Outs[5:6], p.Outs[6:8]} {
		last := outs[len(outs)-1]
		if slices.ContainsFunc(outs, func(o api.Out) bool { return o.Size != 0 }) {
			want = append(want, exec.Seg{Addr: outs[0].Addr, Size: last.Addr + last.Size - outs[0].Addr, Flags: 4 + s})
		}
	}
	for i, s := range x.Segs {
		if i >= len(want) || s.Addr != want[i].Addr || s.Size != want[i].Size || s.Flags != want[i].Flags {
			t.Fatalf("segments are %+v; want %+v", x.Segs, want)
		}
	}
	if len(want) != len(x.Segs) {
		t.Fatalf("segments are %+v; want %+v", x.Segs, want)
	}
	for i, n := range g.Nodes {
		if len(n.Edges) > 0 || len(n.Data) == 0 {
			continue
		}
		k := slices.IndexFunc(x.Segs, func(s exec.Seg) bool { return p.Addr[i] >= s.Addr && p.Addr[i] < s.Addr+s.Size })
		if k < 0 || !bytes.HasPrefix(x.Segs[k].Data[p.Addr[i]-x.Segs[k].Addr:], n.Data) {
			t.Fatalf("node %d of %+v doesn't stand at %d", i, g, p.Addr[i])
		}
	}
}
