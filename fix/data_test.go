package fix_test

import (
	"math"
	"reflect"
	"slices"
	"strings"
	"testing"

	"fishplate/api"
	"fishplate/fix"
)

// edge tells an edge.
func edge(off, typ, add, to, at int) api.Edge {
	return api.Edge{Off: off, Type: typ, Add: add, To: to, At: at}
}

// P17.1: a node without edges, or without bytes, has its bytes, at whatever address.
func TestDataWithoutEdges(t *testing.T) {
	zeros := api.Node{Type: api.NoBits, Flags: api.Write, Align: 1, Size: 9}
	for _, at := range []int{0, 4194304, -1, top, top + 1, math.MaxInt, math.MinInt} {
		mustData(t, node("abc"), at, nil, "abc", 0)
		mustData(t, node("abc"), at, []int{1, -1}, "abc", 0)
		mustData(t, node(""), at, nil, "", 0)
		mustData(t, zeros, at, []int{7}, "", 0)
	}
}

// P17.1: one edge of each Type, by a node's address and At.
func TestDataWithOneEdge(t *testing.T) {
	addr := []int{4096, 65536}
	b := "abcdefghijkl"
	mustData(t, node(b, edge(2, api.R64, 3, 1, 5)), 4096, addr, "ab\x08\x00\x01\x00\x00\x00\x00\x00kl", 0)
	mustData(t, node(b, edge(2, api.RPC32, -4, 1, 5)), 4096, addr, "ab\xff\xef\x00\x00ghijkl", 0)
	mustData(t, node(b, edge(2, api.RPLT32, -4, 1, 5)), 4096, addr, "ab\xff\xef\x00\x00ghijkl", 0)
	mustData(t, node(b, edge(2, api.R32, 3, 1, 5)), 4096, addr, "ab\x08\x00\x01\x00ghijkl", 0)
	mustData(t, node(b, edge(2, api.R32S, 3, 1, 5)), 4096, addr, "ab\x08\x00\x01\x00ghijkl", 0)
	mustData(t, node(b, edge(2, api.R32S, -65543, 1, 5)), 4096, addr, "ab\xfe\xff\xff\xffghijkl", 0)
	mustData(t, node(b, edge(2, api.R64, -65543, 1, 5)), 4096, addr, "ab\xfe\xff\xff\xff\xff\xff\xff\xffkl", 0)
}

// P17.1: an edge at the node's first bytes, and at its last ones.
func TestDataAtItsEnds(t *testing.T) {
	for _, typ := range types {
		for size := width(typ); size < 12; size++ {
			b := strings.Repeat("z", size)
			number := "\x01\x02\x00\x00\x00\x00\x00\x00"[:width(typ)]
			at := 0
			if typ == api.RPC32 || typ == api.RPLT32 {
				at = 1000
			}
			mustData(t, node(b, edge(0, typ, at, 0, 1)), at, []int{512}, number+b[width(typ):], 0)
			off := size - width(typ)
			mustData(t, node(b, edge(off, typ, at+off*min(at, 1), 0, 1)), at, []int{512}, b[width(typ):]+number, 0)
		}
	}
}

// P17.1: several edges, side by side and apart, each by its own place.
func TestDataWithSeveralEdges(t *testing.T) {
	b := strings.Repeat("q", 29)
	n := node(b, edge(1, api.RPC32, 0, 0, 0), edge(5, api.RPC32, 0, 0, 0), edge(9, api.R64, 1, 1, 2), edge(17, api.R32, 0, -1, 7), edge(25, api.R32S, 0, 1, 0))
	want := "q\xff\x0f\x00\x00\xfb\x0f\x00\x00\x03\x01\x00\x00\x00\x00\x00\x00\x07\x00\x00\x00qqqq\x00\x01\x00\x00"
	mustData(t, n, 0, []int{4096, 256}, want, 0)
	n.Edges = slices.Repeat([]api.Edge{edge(0, api.R32, 0, -1, 1)}, 7)
	for i := range n.Edges {
		n.Edges[i].Off, n.Edges[i].At = 4*i, i
	}
	mustData(t, n, 9, nil, "\x00\x00\x00\x00\x01\x00\x00\x00\x02\x00\x00\x00\x03\x00\x00\x00\x04\x00\x00\x00\x05\x00\x00\x00\x06\x00\x00\x00q", 0)
}

// P17.1: edges To -1: At is the number.
func TestDataByNumbers(t *testing.T) {
	b := "abcdefgh"
	for _, addr := range [][]int{nil, {77}, {-1}, {99, 98}} {
		mustData(t, node(b, edge(0, api.R64, 0, -1, 0)), 5, addr, "\x00\x00\x00\x00\x00\x00\x00\x00", 0)
		mustData(t, node(b, edge(0, api.R64, -1, -1, 0)), 5, addr, "\xff\xff\xff\xff\xff\xff\xff\xff", 0)
		mustData(t, node(b, edge(4, api.R32, 2, -1, api.MaxAddr)), 5, addr, "abcd\x01\x00\x00\x80", 0)
		mustData(t, node(b, edge(4, api.RPC32, 0, -1, 9)), 5, addr, "abcd\x00\x00\x00\x00", 0)
		mustData(t, node(b, edge(4, api.R32S, 1, -1, api.MaxAddr)), 5, addr, "", api.ErrRange)
	}
}

// P17.1: an edge to the node itself, at its place, by whatever address addr tells of it.
func TestDataByItself(t *testing.T) {
	n := node("abcdefgh", edge(4, api.RPC32, -4, 0, 8))
	mustData(t, n, 4194304, []int{4194304}, "abcd\x00\x00\x00\x00", 0)
	mustData(t, n, 0, []int{0}, "abcd\x00\x00\x00\x00", 0)
	n = node("abcdefgh", edge(0, api.R64, 0, 0, 4))
	mustData(t, n, 4194304, []int{4194304}, "\x04\x00\x40\x00\x00\x00\x00\x00", 0)
}

// P17.1: each node's own address counts, whichever number it has.
func TestDataByEachNode(t *testing.T) {
	addr := []int{1000, 2000, 3000, 4000}
	for to, want := range addr {
		mustData(t, node("abcdefgh", edge(0, api.R64, 1, to, 2)), 7, addr, string([]byte{byte(want + 3), byte((want + 3) >> 8), 0, 0, 0, 0, 0, 0}), 0)
	}
}

// P17.1: Value's error: an address that isn't one, of where the edge goes, and of where it is; a sum out of range.
func TestDataErrors(t *testing.T) {
	b := "abcdefghij"
	for _, typ := range types {
		for _, none := range []int{-1, -2, top + 1, math.MaxInt, math.MinInt} {
			mustData(t, node(b, edge(0, typ, 0, 0, 0)), 0, []int{none}, "", api.ErrArg)
			mustData(t, node(b, edge(0, typ, 0, -1, 0)), none, []int{0}, "", api.ErrArg)
			mustData(t, node(b, edge(2, typ, 1<<40, 0, 0)), 0, []int{none}, "", api.ErrArg)
		}
		mustData(t, node(b, edge(2, typ, 0, -1, 0)), top-1, nil, "", api.ErrArg)
		mustData(t, node(b, edge(2, typ, 0, -1, 0)), math.MaxInt, nil, "", api.ErrArg)
		mustData(t, node(b, edge(2, typ, 0, -1, 0)), math.MaxInt-1, nil, "", api.ErrArg)
		mustData(t, node(b, edge(0, typ, 0, 0, 1)), 0, []int{top}, "", api.ErrArg)
		mustData(t, node(b, edge(0, typ, 0, 0, api.MaxAddr)), 0, []int{math.MaxInt}, "", api.ErrArg)
		mustData(t, node(b, edge(0, typ, 0, 0, api.MaxAddr)), 0, []int{math.MinInt}, "", api.ErrArg)
		mustData(t, node(b, edge(0, typ, 0, 0, 1)), 0, []int{-2}, "", api.ErrArg)
		if typ != api.R64 {
			mustData(t, node(b, edge(0, typ, 1<<40, 0, 1)), 0, []int{9}, "", api.ErrRange)
			mustData(t, node(b, edge(0, typ, -1<<40, 0, 1)), 0, []int{9}, "", api.ErrRange)
		}
	}
	// P is at and Off: the greatest that there may be, and the least.
	mustData(t, node(b, edge(2, api.RPC32, 0, 0, 0)), top-2, []int{top}, "ab\x00\x00\x00\x00ghij", 0)
	mustData(t, node(b, edge(2, api.RPC32, 5, 0, 0)), -2, []int{0}, "ab\x05\x00\x00\x00ghij", 0)
	mustData(t, node(b, edge(2, api.RPC32, 5, 0, 0)), -3, []int{0}, "", api.ErrArg)
}

// P17.1: of two edges that are amiss the first one's error; bytes are none then.
func TestFirstErrorOfData(t *testing.T) {
	arg, far := edge(0, api.R32, 0, 0, 0), edge(0, api.R32, -1, -1, 0)
	fine := edge(0, api.R32, 0, -1, 5)
	at := func(off int, e api.Edge) api.Edge { e.Off = off; return e }
	for _, c := range []struct {
		edges []api.Edge
		want  api.Code
	}{
		{[]api.Edge{arg, far}, api.ErrArg}, {[]api.Edge{far, arg}, api.ErrRange}, {[]api.Edge{fine, far, arg}, api.ErrRange},
		{[]api.Edge{fine, arg, far}, api.ErrArg}, {[]api.Edge{fine, fine, far}, api.ErrRange}, {[]api.Edge{arg, fine, far}, api.ErrArg}, {[]api.Edge{far, far, arg}, api.ErrRange},
	} {
		var l []api.Edge
		for i, e := range c.edges {
			l = append(l, at(4*i, e))
		}
		mustData(t, node(strings.Repeat("x", 14), l...), 4096, []int{-1}, "", c.want)
	}
}

// P17.1: Data and Edges alone are looked at.
func TestWhatIsNotLookedAt(t *testing.T) {
	n := node("abcdefgh", edge(4, api.RPC32, -4, 0, 8))
	for _, any := range []int{-1, 0, 1, 8, math.MaxInt, math.MinInt} {
		n.Obj, n.Sec, n.Pos, n.Type, n.Flags, n.Align, n.Ent, n.Size, n.Group, n.Link = any, any, any, any, any, any, any, any, any, any
		n.Name, n.Unique = "any", any > 0
		mustData(t, n, 4194304, []int{4194304}, "abcd\x00\x00\x00\x00", 0)
	}
}

// P17.1, P17.3: many nodes, by numbers near to all bounds.
func TestCountedData(t *testing.T) {
	var c counter
	met := map[api.Code]int{}
	for range 60000 {
		addr := []int{4194304 + c.next(9999), c.next(1 << 31), c.next(1<<31) * 2, c.next(9) - 1}
		var b strings.Builder
		for range c.next(50) {
			b.WriteByte(byte(c.next(256)))
		}
		n := node(b.String())
		for off := c.next(9); ; off += c.next(6) {
			typ := types[c.next(len(types))]
			if off+width(typ) > len(n.Data) {
				break
			}
			e := edge(off, typ, c.next(99)-50, c.next(len(addr)+1)-1, c.next(1+c.next(2)*c.next(99)))
			if e.To == 3 && addr[3] < 0 {
				e.At = 0 // so that it is no address, however it is read
			}
			if c.next(20) == 0 {
				e.Add = (c.next(1<<30) - 1<<29) << 4
			}
			n.Edges = append(n.Edges, e)
			off += width(typ)
		}
		at := 4194304 + c.next(9999)
		if c.next(9) == 0 {
			at = c.next(1<<31) * 2
		}
		met[holdData(t, n, at, addr)]++
	}
	if min(met[0], met[api.ErrArg], met[api.ErrRange]) < 1000 {
		t.Errorf("met: %v", met)
	}
}

// P1: as many edges as a node can have, and more.
func TestManyEdges(t *testing.T) {
	var n api.Node
	n.Data = make([]byte, 1<<16)
	for off := 0; off < len(n.Data); off += 8 {
		n.Edges = append(n.Edges, edge(off, api.R64, off, 0, 0))
	}
	if code := holdData(t, n, 4194304, []int{4194304}); code != 0 {
		t.Error(code)
	}
}

// roomy tells a list in new memory that has room for some more, which are filled, so that it is to be seen whether they get written.
func roomy[T any](l []T, more T) []T {
	long := append(make([]T, 0, len(l)+9), l...)
	for range 9 {
		long = append(long, more)
	}
	return long[:len(l)]
}

// fill fills a list, also behind its end.
func fill[T any](l []T, with T) {
	l = l[:cap(l)]
	for i := range l {
		l[i] = with
	}
}

// P17.2, R2: nothing that is handed in is changed, the node's Data above all, with an answer and with an error.
func TestNothingHandedInIsChanged(t *testing.T) {
	for _, last := range []api.Edge{edge(8, api.RPC32, -4, 0, 8), edge(8, api.R32, -9999, 0, 8), edge(8, api.R64, 0, 1, 0)} {
		edges := []api.Edge{edge(0, api.R64, 7, 0, 1), last}
		n := node("abcdefghijklmnopqrst")
		n.Data, n.Edges = roomy(n.Data, 9), roomy(edges, edge(1, 2, 3, 4, 5))
		addr := roomy([]int{4096, -1}, 9)
		before := []any{slices.Clone(n.Data[:cap(n.Data)]), slices.Clone(n.Edges[:cap(n.Edges)]), slices.Clone(addr[:cap(addr)])}
		fix.Data(n, 4096, addr)
		if after := []any{n.Data[:cap(n.Data)], n.Edges[:cap(n.Edges)], addr[:cap(addr)]}; !reflect.DeepEqual(after, before) {
			t.Errorf("Data changed %v to %v", before, after)
		}
	}
}

// P17.2: what is told is new memory, also without edges; whoever changes it changes no other answer, and no node.
func TestAnswersAreNewMemory(t *testing.T) {
	for _, edges := range [][]api.Edge{nil, {edge(4, api.RPC32, -4, 0, 8)}} {
		n := node("abcdefgh", edges...)
		n.Data = roomy(n.Data, 9)
		want, _ := plainData(n, 4096, []int{4096})
		for range 3 {
			first, _ := fix.Data(n, 4096, []int{4096})
			second, _ := fix.Data(n, 4096, []int{4096})
			fill(first, 255)
			if string(second) != string(want) || string(n.Data[:cap(n.Data)]) != "abcdefgh"+strings.Repeat("\t", 9) {
				t.Errorf("another answer is %v, of %v", second, n)
			}
			mustData(t, n, 4096, []int{4096}, string(want), 0)
			other := node("abcdefgh", edges...)
			third, _ := fix.Data(other, 4096, []int{4096})
			fill(other.Data, 7)
			if string(third) != string(want) {
				t.Errorf("an answer was changed with the node to %v", third)
			}
		}
	}
}
