package join_test

import (
	"slices"
	"strconv"
	"strings"
	"testing"

	"fishplate/api"
	"fishplate/join"
)

// some are pieces that have ends in common, and are alike but for one thing.
func some() []api.Node {
	return []api.Node{
		text(""), text("\x00"), text("a\x00"), text("b\x00"), text("ba\x00"), text("aba\x00"), text("cba\x00"),
		of(2, text("a\x00")), entry(4, "a\x00"), entry(8, "a\x00"), entry(4, "ba\x00"), code("ba\x00"),
	}
}

// P14.1, P14.3: all graphs of up to three pieces out of some, kept and not kept, in all orders.
func TestAllGraphsOfThree(t *testing.T) {
	l := some()
	ways := 2 * len(l)
	for which := range ways * ways * ways {
		var g api.Graph
		var kept []bool
		for rest := which; len(kept) < 3; rest /= ways {
			g.Nodes = append(g.Nodes, l[rest%ways/2])
			kept = append(kept, rest%2 == 0)
		}
		hold(t, g, kept)
		if which < ways*ways {
			hold(t, graph(g.Nodes[:2]...), kept[:2])
			hold(t, graph(g.Nodes[:1]...), kept[:1])
		}
	}
}

// P14.1, P14.3: all graphs of five kept strings out of six.
func TestAllGraphsOfFive(t *testing.T) {
	l := []string{"\x00", "a\x00", "ba\x00", "ca\x00", "dba\x00", "dca\x00"}
	for which := range 6 * 6 * 6 * 6 * 6 {
		g := texts(l[which%6], l[which/6%6], l[which/36%6], l[which/216%6], l[which/1296])
		hold(t, g, all(g))
	}
}

// node tells a node by where the counter is.
func (c *counter) node() api.Node {
	var n api.Node
	switch c.next(8) {
	case 0:
		n = code(c.text(3, "ab"))
	case 1:
		n = entry(4<<c.next(2), c.text(2, "ab"))
	case 2:
		n = of(1+c.next(2), text(c.text(2, "ab")+"\x00"))
	case 3:
		n = text(c.text(2, "ab\x00"))
	default:
		n = text(c.text(5, "ab") + "\x00")
	}
	if c.next(8) == 0 {
		n.Flags ^= []int{api.Strings, api.Merge, api.Alloc, api.Write}[c.next(4)]
	}
	return n
}

// P14.1, P14.3: many graphs of up to 19 nodes.
func TestCountedGraphs(t *testing.T) {
	var c counter
	joined, hosted := 0, 0
	for range 20000 {
		var g api.Graph
		var kept []bool
		for range 1 + c.next(19) {
			g.Nodes = append(g.Nodes, c.node())
			kept = append(kept, c.next(5) > 0)
		}
		for i, s := range hold(t, g, kept) {
			if s.At > 0 {
				hosted++
			} else if s.Node != i {
				joined++
			}
		}
	}
	if joined < 3000 || hosted < 30000 {
		t.Errorf("%d pieces stand in one that is alike, %d at a longer one's end", joined, hosted)
	}
}

// bytesOfAll is how many bytes the pieces of a graph of objects have at most.
const bytesOfAll = 8 * api.MaxObj

// P1: many long strings that end alike.
func TestLongStrings(t *testing.T) {
	soon(t, func() {
		end := strings.Repeat("a", api.MaxObj/2)
		var g api.Graph
		for i := range 8 {
			g.Nodes = append(g.Nodes, text(end[i:]+"\x00"), text(strconv.Itoa(i)+end[i:]+"\x00"), text(end[8+i:]+"b\x00"))
		}
		hold(t, g, all(g))
		hold(t, g, but(g, 0, 1, 5))
	})
}

// P1: each string is one byte longer than the one ahead of it, or shorter, and ends with it.
func TestNestedStrings(t *testing.T) {
	const many = 500 // have about as many bytes in all as objects can
	soon(t, func() {
		var up, down api.Graph
		for i := range many {
			up.Nodes = append(up.Nodes, text(strings.Repeat("a", i)+"\x00"))
			down.Nodes = append(down.Nodes, text(strings.Repeat("a", many-1-i)+"\x00"))
		}
		for i, s := range join.Join(up, all(up)) {
			if s != at(many-1, many-1-i) {
				t.Fatalf("string %d stands at %v", i, s)
			}
		}
		for i, s := range join.Join(down, all(down)) {
			if s != at(0, i) {
				t.Fatalf("string %d stands at %v", i, s)
			}
		}
	})
}

// P1: as many strings as objects can make, each its 0 alone; and as many entries.
func TestAsManyAsMayBe(t *testing.T) {
	soon(t, func() {
		var g api.Graph
		for range bytesOfAll {
			g.Nodes = append(g.Nodes, text("\x00"))
		}
		g.Nodes[bytesOfAll/2] = text("a\x00")
		for i, s := range join.Join(g, all(g)) {
			if s.Node != bytesOfAll/2 || s.At != len(g.Nodes[s.Node].Data)-len(g.Nodes[i].Data) {
				t.Fatalf("string %d stands at %v", i, s)
			}
		}
		var e api.Graph
		for i := range bytesOfAll / 4 {
			e.Nodes = append(e.Nodes, entry(4, string([]byte{byte(i % 251), byte(i % 7), 0, byte(i % 3)})))
		}
		for i, s := range join.Join(e, all(e)) {
			if s != at(i%(251*7*3), 0) {
				t.Fatalf("entry %d stands at %v", i, s)
			}
		}
	})
}

// P1: as many strings as objects can make of which none are alike, each the end of many others, or of none.
func TestManyUnlikeStrings(t *testing.T) {
	soon(t, func() {
		var g api.Graph
		total := 0
		for i := 0; total < bytesOfAll; i++ {
			b := strconv.FormatInt(int64(i), 36) + "\x00"
			total += len(b)
			g.Nodes = append(g.Nodes, text(b))
		}
		got := join.Join(g, all(g))
		mustFollow(t, g, all(g), got)
		hosts := hostsByEnds(g)
		for i, s := range got {
			want := i
			if h, ok := hosts[string(g.Nodes[i].Data)]; ok {
				want = h
			}
			if s.Node != want {
				t.Fatalf("string %q stands in %q; want %q", g.Nodes[i].Data, g.Nodes[s.Node].Data, g.Nodes[want].Data)
			}
		}
	})
}

// hostsByEnds tells for each end of strings that are all unlike the first one that ends with it, and with which no other one ends.
func hostsByEnds(g api.Graph) map[string]int {
	isEnd := map[string]bool{}
	for _, n := range g.Nodes {
		for i := 1; i < len(n.Data); i++ {
			isEnd[string(n.Data[i:])] = true
		}
	}
	hosts := map[string]int{}
	for i, n := range slices.Backward(g.Nodes) {
		if isEnd[string(n.Data)] {
			continue
		}
		for k := 1; k < len(n.Data); k++ {
			hosts[string(n.Data[k:])] = i
		}
	}
	return hosts
}
