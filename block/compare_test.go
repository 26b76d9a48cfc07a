package block_test

import (
	"slices"
	"testing"

	"fishplate/api"
	"fishplate/block"
)

// asked tells what each of Op 14, 15, 16 does behind some steps: "jump", "stay", or "stuck".
func asked(t *testing.T, g api.Graph, ahead int) [3]string {
	t.Helper()
	var l [3]string
	n := g.Nodes[0]
	for i := range l {
		g.Nodes = slices.Clone(g.Nodes)
		g.Nodes[0] = code(slices.Concat(n.Data, in(14+i, 0, 0, 1000)), n.Edges...)
		s := hold(t, g, nil, ahead+1)
		behind := at(0, uint64(len(n.Data)+6))
		switch {
		case s.Status == 2:
			mustBeStuck(t, g, ahead)
			l[i] = "stuck"
		case s.Ip == behind:
			l[i] = "stay"
		case s.Ip == at(0, behind.N+1000):
			l[i] = "jump"
		}
	}
	return l
}

// What is told of Op 14 to 16: those that are the same, those of which M is below R, and above it; those of which is known but that they aren't the same; and nothing.
var (
	equal   = [3]string{"jump", "stay", "stay"}
	below   = [3]string{"stay", "jump", "jump"}
	above   = [3]string{"stay", "jump", "stay"}
	other   = [3]string{"stay", "jump", "stuck"}
	nothing = [3]string{"stuck", "stuck", "stuck"}
)

// held tells what Op 14 to 16 do behind holding rcx against rdx, which have these values: of the graph of both.
func held(t *testing.T, m, r block.Val, l ...[]byte) [3]string {
	t.Helper()
	g, ahead, _ := both(m, r, append([][]byte{in(12, rdx, rcx, 0)}, l...)...)
	return asked(t, g, ahead+1+len(l))
}

// P23.1: what is held against each other: each pair that the chapter names, at each bound of N.
// (Node 1 is of 9 bytes and Unique, 2 of 8 and Unique, 3 of 3 and not Unique, 4 of none and Unique.)
func TestHeldAgainstEachOther(t *testing.T) {
	same, unlike := [3]string{"jump", "stay", "stuck"}, other
	for _, c := range []struct {
		m, r block.Val
		want [3]string
	}{
		// Two numbers.
		{num(0), num(0), equal}, {num(5), num(5), equal}, {num(3), num(5), below}, {num(5), num(3), above}, {num(0), num(most), below}, {num(most), num(0), above}, {num(1 << 63), num(1<<63 - 1), above}, {num(most), num(most), equal},
		// Two places of one node.
		{at(1, 0), at(1, 0), equal}, {at(1, 9), at(1, 9), equal}, {at(1, 0), at(1, 9), below}, {at(1, 9), at(1, 0), above}, {at(1, 3), at(1, 4), below},
		{at(1, 10), at(1, 10), same}, {at(1, 10), at(1, 9), unlike}, {at(1, 9), at(1, 10), unlike}, {at(1, most), at(1, 0), unlike}, {at(1, 0), at(1, most), unlike}, {at(1, most), at(1, most), same},
		{at(3, 1), at(3, 2), below}, {at(3, 3), at(3, 3), equal}, {at(3, 4), at(3, 3), unlike}, {at(4, 0), at(4, 0), equal}, {at(4, 1), at(4, 1), same}, {at(4, 0), at(4, 1), unlike},
		{at(-1, 0), at(-1, 256), below}, {at(-1, 256), at(-1, 256), equal}, {at(-1, 257), at(-1, 256), unlike}, {at(-1, 257), at(-1, 257), same}, {at(0, 0), at(0, 1), below},
		// Two places of two nodes.
		{at(1, 0), at(2, 0), other}, {at(1, 8), at(2, 7), other}, {at(2, 7), at(1, 8), other}, {at(1, 9), at(2, 7), nothing}, {at(1, 8), at(2, 8), nothing}, {at(1, most), at(2, 0), nothing}, {at(2, 0), at(1, most), nothing},
		{at(1, 0), at(3, 0), nothing}, {at(3, 0), at(1, 0), nothing}, {at(4, 0), at(1, 0), nothing}, {at(1, 0), at(4, 0), nothing}, {at(0, 0), at(1, 0), nothing}, {at(1, 0), at(0, 0), nothing},
		{at(-1, 0), at(1, 0), other}, {at(1, 8), at(-1, 255), other}, {at(-1, 256), at(1, 0), nothing}, {at(1, 0), at(-1, 256), nothing}, {at(1, 9), at(-1, 0), nothing}, {at(-1, 0), at(3, 0), nothing}, {at(3, 0), at(-1, 0), nothing}, {at(-1, most), at(1, 0), nothing},
		// A place and the number 0, either way.
		{at(1, 0), num(0), other}, {num(0), at(1, 0), other}, {at(1, 9), num(0), other}, {num(0), at(1, 9), other}, {at(1, 10), num(0), nothing}, {num(0), at(1, 10), nothing}, {at(1, most), num(0), nothing}, {num(0), at(1, most), nothing},
		{at(3, 3), num(0), other}, {num(0), at(3, 4), nothing}, {at(4, 0), num(0), other}, {num(0), at(4, 1), nothing}, {at(-1, 256), num(0), other}, {num(0), at(-1, 0), other}, {at(-1, 257), num(0), nothing}, {num(0), at(-1, 257), nothing},
		// A place and another number.
		{at(1, 0), num(1), nothing}, {num(1), at(1, 0), nothing}, {at(1, 5), num(5), nothing}, {num(most), at(-1, 0), nothing}, {at(3, 0), num(0x400000), nothing},
	} {
		if got := held(t, c.m, c.r); got != c.want {
			t.Errorf("%+v against %+v: %v; want %v", c.m, c.r, got, c.want)
		}
	}
}

// P23.1: behind Op 9, 10, 11 nothing is held against anything, whatever was; nor at first.
func TestNothingHeld(t *testing.T) {
	if got := asked(t, graph(code(nil)), 0); got != nothing {
		t.Errorf("at first: %v", got)
	}
	for _, v := range []block.Val{num(5), num(0), at(1, 3)} {
		for _, l := range [][]byte{in(9, rsi, rdi, 0), in(10, rsi, rdi, 0), in(10, rdx, rcx, 0), in(11, 0, rdi, 0), in(11, 0, rcx, 5)} {
			if got := held(t, v, v, l); got != nothing {
				t.Errorf("behind %v: %v", l, got)
			}
			g, ahead, _ := both(v, v, l)
			if got := asked(t, g, ahead+1); got != nothing {
				t.Errorf("behind %v alone: %v", l, got)
			}
			// Held again, it is asked again.
			if got := held(t, v, v, l, in(12, rsi, rsi, 0)); got != equal {
				t.Errorf("behind %v, and held again: %v", l, got)
			}
		}
	}
}

// P23.1: what is held stays so behind all others, also if registers are changed; and Op 12 is done whatever is held.
func TestStillHeld(t *testing.T) {
	others := [][]byte{in(1, 0, rcx, 9), in(2, 0, rdx, 9), in(3, rcx, 0, 0), in(8, rsi, rcx, 0), in(13, 0, 0, 0), in(17, 0, 0, 0), in(20, 0, 0, 0)}
	for _, c := range []struct {
		m, r block.Val
		want [3]string
	}{{num(5), num(5), equal}, {num(3), num(5), below}, {at(1, 5), at(1, 3), above}, {at(1, 0), at(2, 0), other}, {at(1, 0), num(7), nothing}} {
		for _, l := range others {
			if got := held(t, c.m, c.r, l); got != c.want {
				t.Errorf("%+v, behind %v: %v", c, l, got)
			}
		}
		if got := held(t, c.m, c.r, others...); got != c.want {
			t.Errorf("%+v, behind all: %v", c, got)
		}
		// What is held last counts.
		if got := held(t, c.m, c.r, in(12, rsp, rsp, 0)); got != equal {
			t.Errorf("%+v, then rsp against itself: %v", c, got)
		}
		if got := held(t, num(1), num(1), in(1, 0, rcx, 3), in(12, rdx, rcx, 0)); got != above {
			t.Errorf("3 against 1: %v", got)
		}
	}
	// A jump changes nothing of it.
	g, ahead, _ := both(num(5), num(5), in(12, rdx, rcx, 0), in(14, 0, 0, 0), in(15, 0, 0, 0), in(16, 0, 0, 0))
	if got := asked(t, g, ahead+4); got != equal {
		t.Errorf("behind jumps: %v", got)
	}
	// Loads and stores change nothing of it, either.
	a := write().do(8, rsp, rbx, 0).do(1, 0, rcx, 5).do(12, rcx, rcx, 0).do(5, rcx, rbx, -8).do(4, rdx, rbx, -8).do(7, rcx, rbx, -8).do(6, rdx, rbx, -8)
	if got := asked(t, graph(a.node()), 7); got != equal {
		t.Errorf("behind loads and stores: %v", got)
	}
	// Back neither.
	a = write().do(12, rcx, rcx, 0).do(17, 0, 0, 5).do(13, 0, 0, 1).do(19, 0, 0, 0)
	if got := asked(t, graph(a.node()), 4); got != equal {
		t.Errorf("behind a call: %v", got)
	}
}
