package join_test

import (
	"math"
	"slices"
	"strings"
	"testing"

	"fishplate/api"
	"fishplate/join"
)

// The document's example.
func TestExample(t *testing.T) {
	for _, end := range []string{"", "\x00"} {
		g := texts("bc"+end, "abc"+end, "abc"+end)
		mustJoin(t, g, all(g), at(1, 1), at(1, 0), at(1, 0))
	}
}

// P14.1: what is alone stands in itself, and so does each node that ends with no other's bytes.
func TestAlone(t *testing.T) {
	for _, g := range []api.Graph{texts("abc\x00"), texts("\x00"), texts(""), graph(entry(4, "abcd")), graph(code("x")), graph(code(""))} {
		mustJoin(t, g, all(g), at(0, 0))
		mustJoin(t, g, but(g, 0), at(0, 0))
	}
	g := texts("ab\x00", "ac\x00", "bb\x00", "abc\x00")
	mustJoin(t, g, all(g), at(0, 0), at(1, 0), at(2, 0), at(3, 0))
}

// P14.1: pieces that are alike stand in the first kept one of them.
func TestHeads(t *testing.T) {
	g := texts("ab\x00", "c\x00", "ab\x00", "c\x00", "ab\x00")
	mustJoin(t, g, all(g), at(0, 0), at(1, 0), at(0, 0), at(1, 0), at(0, 0))
	mustJoin(t, g, but(g, 0), at(0, 0), at(1, 0), at(2, 0), at(1, 0), at(2, 0))
	mustJoin(t, g, but(g, 0, 2), at(0, 0), at(1, 0), at(2, 0), at(1, 0), at(4, 0))
	mustJoin(t, g, but(g, 2, 1), at(0, 0), at(1, 0), at(2, 0), at(3, 0), at(0, 0))
	mustJoin(t, g, but(g, 0, 1, 2, 3, 4), at(0, 0), at(1, 0), at(2, 0), at(3, 0), at(4, 0))
	e := graph(entry(4, "abcd"), entry(4, "abce"), entry(4, "abcd"), entry(4, "abce"))
	mustJoin(t, e, all(e), at(0, 0), at(1, 0), at(0, 0), at(1, 0))
	mustJoin(t, e, but(e, 0, 1), at(0, 0), at(1, 0), at(2, 0), at(3, 0))
}

// P14.1: a string stands at the end of a longer one, be that ahead of it or behind it.
func TestHosts(t *testing.T) {
	g := texts("c\x00", "abc\x00", "bc\x00")
	mustJoin(t, g, all(g), at(1, 2), at(1, 0), at(1, 1))
	g = texts("abc\x00", "c\x00", "bc\x00", "\x00", "abc\x00")
	mustJoin(t, g, all(g), at(0, 0), at(0, 2), at(0, 1), at(0, 3), at(0, 0))
	g = texts("c\x00", "bc\x00", "c\x00", "bc\x00", "abc\x00")
	mustJoin(t, g, all(g), at(4, 2), at(4, 1), at(4, 2), at(4, 1), at(4, 0))
}

// P14.1: what stands at a string's beginning, or in its middle, alone doesn't stand in it.
func TestOnlyEnds(t *testing.T) {
	g := texts("abc", "ab", "b", "a", "bc")
	mustJoin(t, g, all(g), at(0, 0), at(1, 0), at(1, 1), at(3, 0), at(0, 1))
	g = texts("a\x00b\x00", "a\x00", "b\x00", "a\x00b")
	mustJoin(t, g, all(g), at(0, 0), at(1, 0), at(0, 2), at(3, 0))
}

// P14.1: of several longer ones the host is one that no longer one ends with, the first of these.
func TestHostIsLongest(t *testing.T) {
	g := texts("c\x00", "bc\x00", "abc\x00")
	mustJoin(t, g, all(g), at(2, 2), at(2, 1), at(2, 0))
	g = texts("c\x00", "bc\x00", "xc\x00", "abc\x00", "yxc\x00")
	mustJoin(t, g, all(g), at(3, 2), at(3, 1), at(4, 1), at(3, 0), at(4, 0))
	g = texts("c\x00", "xc\x00", "bc\x00", "abc\x00", "yxc\x00")
	mustJoin(t, g, all(g), at(3, 2), at(4, 1), at(3, 1), at(3, 0), at(4, 0))
	g = texts("yxc\x00", "c\x00", "xc\x00", "bc\x00", "abc\x00")
	mustJoin(t, g, all(g), at(0, 0), at(0, 2), at(0, 1), at(4, 1), at(4, 0))
	// The first one that no longer one ends with, though another one is longer.
	g = texts("c\x00", "bc\x00", "wxyzc\x00")
	mustJoin(t, g, all(g), at(1, 1), at(1, 0), at(2, 0))
	g = texts("wxyzc\x00", "c\x00", "bc\x00")
	mustJoin(t, g, all(g), at(0, 0), at(0, 4), at(2, 0))
}

// P14.1: of two longer ones, neither of which is the other's end, it is the first one, whichever that is.
func TestFirstOfSeveralHosts(t *testing.T) {
	l := []string{"ac\x00", "bc\x00", "zc\x00", "aac\x00", "zbc\x00"}
	for _, first := range l {
		for _, second := range l {
			if strings.HasSuffix(first, second) || strings.HasSuffix(second, first) {
				continue
			}
			g := texts(first, "c\x00", second)
			mustJoin(t, g, all(g), at(0, 0), at(0, len(first)-2), at(2, 0))
			g = texts("c\x00", first, second, "c\x00")
			mustJoin(t, g, all(g), at(1, len(first)-2), at(1, 0), at(2, 0), at(1, len(first)-2))
			mustJoin(t, g, but(g, 1), at(2, len(second)-2), at(1, 0), at(2, 0), at(2, len(second)-2))
		}
	}
}

// P14.1: only heads that are kept are hosts.
func TestHostsAreKept(t *testing.T) {
	g := texts("c\x00", "bc\x00", "abc\x00", "c\x00", "bc\x00", "abc\x00")
	mustJoin(t, g, but(g, 2, 5), at(1, 1), at(1, 0), at(2, 0), at(1, 1), at(1, 0), at(5, 0))
	mustJoin(t, g, but(g, 2), at(5, 2), at(5, 1), at(2, 0), at(5, 2), at(5, 1), at(5, 0))
	mustJoin(t, g, but(g, 0, 1), at(0, 0), at(1, 0), at(2, 0), at(2, 2), at(2, 1), at(2, 0))
	mustJoin(t, g, but(g, 0, 1, 2, 4, 5), at(0, 0), at(1, 0), at(2, 0), at(3, 0), at(4, 0), at(5, 0))
	mustJoin(t, g, but(g, 1, 2, 4, 5), at(0, 0), at(1, 0), at(2, 0), at(0, 0), at(4, 0), at(5, 0))
}

// P14.1: the host of the first one, if two longer ones are alike, is the first of them that is kept.
func TestHostsAreHeads(t *testing.T) {
	g := texts("c\x00", "abc\x00", "abc\x00", "xc\x00")
	mustJoin(t, g, all(g), at(1, 2), at(1, 0), at(1, 0), at(3, 0))
	mustJoin(t, g, but(g, 1), at(2, 2), at(1, 0), at(2, 0), at(3, 0))
	mustJoin(t, g, but(g, 1, 2), at(3, 1), at(1, 0), at(2, 0), at(3, 0))
}

// P14.1: pieces of unlike Ent, or with Strings and without, are not alike, though their bytes are.
func TestSameBytesNotAlike(t *testing.T) {
	b := strings.Repeat("a", 16)
	g := graph(entry(4, b), entry(8, b), entry(16, b), entry(4, b), entry(16, b), text(b), of(4, text(b)), entry(1, b), of(16, text(b)), of(4, text(b)))
	mustJoin(t, g, all(g), at(0, 0), at(1, 0), at(2, 0), at(0, 0), at(2, 0), at(5, 0), at(6, 0), at(7, 0), at(8, 0), at(6, 0))
	mustJoin(t, g, but(g, 0, 5), at(0, 0), at(1, 0), at(2, 0), at(3, 0), at(2, 0), at(5, 0), at(6, 0), at(7, 0), at(8, 0), at(6, 0))
	for _, ent := range []int{0, -1, 2, 1 << 32, 1<<32 + 1, math.MaxInt, math.MinInt} {
		g := graph(entry(1, b), entry(ent, b), entry(ent, b), of(ent, text(b)), text(b), of(ent, text(b)))
		mustJoin(t, g, all(g), at(0, 0), at(1, 0), at(1, 0), at(3, 0), at(4, 0), at(3, 0))
	}
}

// P14.1: pieces without Strings never stand in each other, nor in a string, nor a string in them.
func TestEntriesDoNotShareEnds(t *testing.T) {
	g := graph(entry(8, "abcdefgh"), entry(4, "efgh"), text("efgh"), text("gh"), entry(4, "gh"), entry(16, "....xxxxabcdefgh"))
	mustJoin(t, g, all(g), at(0, 0), at(1, 0), at(2, 0), at(2, 2), at(4, 0), at(5, 0))
}

// P14.1: a string that ends with another one's bytes is its host by its bytes alone, be their Ent alike or not.
func TestHostsOfUnlikeEnt(t *testing.T) {
	g := graph(of(2, text("bc\x00")), text("abc\x00"), of(2, text("c\x00")), of(3, text("abc\x00")), text("bc\x00"))
	mustJoin(t, g, all(g), at(1, 1), at(1, 0), at(1, 2), at(3, 0), at(1, 1))
	mustJoin(t, g, but(g, 1), at(3, 1), at(1, 0), at(3, 2), at(3, 0), at(3, 1))
	mustJoin(t, g, but(g, 1, 3), at(0, 0), at(1, 0), at(0, 1), at(3, 0), at(4, 0))
}

// P14.1: a string of its 0 alone stands at any string's end; one of no bytes behind any one's.
func TestShortest(t *testing.T) {
	g := texts("\x00", "a\x00", "\x00", "b\x00")
	mustJoin(t, g, all(g), at(1, 1), at(1, 0), at(1, 1), at(3, 0))
	mustJoin(t, g, but(g, 1, 3), at(0, 0), at(1, 0), at(0, 0), at(3, 0))
	g = texts("", "a\x00", "", "\x00")
	mustJoin(t, g, all(g), at(1, 2), at(1, 0), at(1, 2), at(1, 1))
	mustJoin(t, g, but(g, 1), at(3, 1), at(1, 0), at(3, 1), at(3, 0))
	mustJoin(t, g, but(g, 1, 3), at(0, 0), at(1, 0), at(0, 0), at(3, 0))
	e := graph(entry(4, ""), text(""), entry(4, ""), code(""), text("x"))
	mustJoin(t, e, all(e), at(0, 0), at(4, 1), at(0, 0), at(3, 0), at(4, 0))
}

// P14.1: nodes that are not of Merge stand in themselves, with Strings among their flags or not, and are nobody's head or host.
func TestNotOfMerge(t *testing.T) {
	g := graph(code("abc\x00"), text("bc\x00"), code("abc\x00"), text("bc\x00"), code("bc\x00"))
	mustJoin(t, g, all(g), at(0, 0), at(1, 0), at(2, 0), at(1, 0), at(4, 0))
	for _, flags := range []int{0, api.Strings, api.Strings | api.Alloc, ^api.Merge, api.Write, api.Retain | api.Grouped} {
		g := graph(flagged(flags, of(1, text("abc\x00"))), text("bc\x00"), text("c\x00"), flagged(flags, text("bc\x00")), flagged(flags, text("c\x00")), flagged(flags, entry(4, "abcd")), entry(4, "abcd"))
		mustJoin(t, g, all(g), at(0, 0), at(1, 0), at(1, 1), at(3, 0), at(4, 0), at(5, 0), at(6, 0))
	}
}

// P14.1: flags but Merge and Strings aren't looked at.
func TestOtherFlags(t *testing.T) {
	for _, flags := range []int{0, api.Alloc, api.Write, api.Exec, api.Order | api.Grouped, api.Retain, 8, ^(api.Merge | api.Strings)} {
		b := text("bc\x00")
		g := graph(text("abc\x00"), flagged(flags|api.Merge|api.Strings, b), flagged(flags|api.Merge|api.Strings, text("abc\x00")), entry(4, "abcd"), flagged(flags|api.Merge, entry(4, "abcd")))
		mustJoin(t, g, all(g), at(0, 0), at(0, 1), at(0, 0), at(3, 0), at(3, 0))
	}
}

// P14.1: bytes are any, also those of runes, or above 127; what is alike to the eye alone is not.
func TestAnyBytes(t *testing.T) {
	g := texts("\xc3\xa9\x00", "\xa9\x00", "e\x00", "\xff\x00\x00", "\x00\x00", "\x00", "E\x00")
	mustJoin(t, g, all(g), at(0, 0), at(0, 1), at(2, 0), at(3, 0), at(3, 1), at(0, 2), at(6, 0))
	for b := range 256 {
		one, two := string([]byte{byte(b)}), string([]byte{'#', byte(b)})
		g := texts(one, two, string([]byte{byte(b) ^ 1}))
		mustJoin(t, g, all(g), at(1, 1), at(1, 0), at(2, 0))
	}
}

// P14.1: a head that stands in a host takes those that are alike along; At is by their bytes.
func TestHeadsInHosts(t *testing.T) {
	g := texts("def", "ef", "xdef", "ef", "def", "f", "yyyef", "f")
	mustJoin(t, g, all(g), at(2, 1), at(2, 2), at(2, 0), at(2, 2), at(2, 1), at(2, 3), at(6, 0), at(2, 3))
	mustJoin(t, g, but(g, 0, 4), at(0, 0), at(2, 2), at(2, 0), at(2, 2), at(4, 0), at(2, 3), at(6, 0), at(2, 3))
	mustJoin(t, g, but(g, 2), at(0, 0), at(0, 1), at(2, 0), at(0, 1), at(0, 0), at(0, 2), at(6, 0), at(0, 2))
}

// P14.1: what this layer doesn't look at may be any; so may Size.
func TestWhatIsNotLookedAt(t *testing.T) {
	g := graph(text("c\x00"), text("abc\x00"), entry(4, "abcd"), code("c\x00"), entry(4, "abcd"), text("bc\x00"))
	for _, any := range []int{-1, 0, 1, 2, 3, 4, 99, math.MaxInt, math.MinInt} {
		for i := range g.Nodes {
			n := &g.Nodes[i]
			n.Obj, n.Sec, n.Pos, n.Name, n.Type, n.Align, n.Size = any, any*i, any+i, strings.Repeat("n", i), any*i, any, any*(i+1)
			n.Edges, n.Unique, n.Group, n.Link = []api.Edge{{Off: any, To: i, At: any}}, i%2 == 0, any, any
		}
		g.To, g.At, g.Names = any, any, []api.Name{{Name: "x", To: any}}
		mustJoin(t, g, all(g), at(1, 2), at(1, 0), at(2, 0), at(3, 0), at(2, 0), at(1, 1))
	}
}

// P14.2, R2: nothing that is handed in is changed, also not behind its end.
func TestNothingHandedInIsChanged(t *testing.T) {
	like := graph(text("c\x00"), code("c\x00"), text("abc\x00"), entry(4, "abcd"), text("c\x00"), entry(4, "abcd"), text(""), text("bc\x00"))
	for i := range like.Nodes {
		like.Nodes[i].Edges = []api.Edge{{Off: 1, To: i}}
		g, kept := copied(like), roomy(but(like, i), true)
		join.Join(g, kept)
		if !unchanged(g, copied(like)) {
			t.Errorf("Join changed %+v to %+v", like, g)
		}
		if !slices.Equal(kept[:cap(kept)], append(but(like, i), true, true, true)) {
			t.Errorf("Join changed what is kept to %v", kept[:cap(kept)])
		}
	}
}

// P14.2: what is told is new memory, whoever changes it; no answer hangs on others.
func TestAnswersAreNewMemory(t *testing.T) {
	like := graph(text("c\x00"), code("c\x00"), text("abc\x00"), entry(4, "abcd"), text("c\x00"), entry(4, "abcd"))
	want := spots(at(2, 2), at(1, 0), at(2, 0), at(3, 0), at(2, 2), at(3, 0))
	for range 3 {
		g := copied(like)
		kept := all(g)
		first, second := join.Join(g, kept), join.Join(g, kept)
		fill(first, at(77, 77))
		if !slices.Equal(second, want) || !unchanged(g, copied(like)) || !slices.Equal(kept, all(g)) {
			t.Errorf("another answer is %v, of %+v, %v", second, g, kept)
		}
		mustJoin(t, g, kept, want...)
		for i := range g.Nodes {
			fill(g.Nodes[i].Data, 1)
		}
		fill(g.Nodes, text("z"))
		fill(kept, false)
		if !slices.Equal(second, want) {
			t.Errorf("an answer was changed with the graph to %v", second)
		}
		mustJoin(t, g, all(g), at(0, 0), at(0, 0), at(0, 0), at(0, 0), at(0, 0), at(0, 0))
	}
}
