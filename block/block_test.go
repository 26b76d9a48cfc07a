package block_test

import (
	"math"
	"reflect"
	"slices"
	"testing"

	"fishplate/api"
	"fishplate/block"
)

// The document's example: lea of a string, and the byte there: a place, and its first byte.
func TestExample(t *testing.T) {
	a := write().by(3, rsi, 0, api.RPC32, 1, 0, -4).do(6, rax, rsi, 0)
	g := graph(a.node(), fixed([]byte("string\x00")))
	mustRun(t, g, nil, 1, want{ip: at(0, 7), regs: map[int]block.Val{rsi: at(1, 0)}})
	mustRun(t, g, nil, 2, want{ip: at(0, 15), regs: map[int]block.Val{rsi: at(1, 0), rax: num('s')}})
}

// P23.1: how many steps there may be.
func TestSteps(t *testing.T) {
	// It goes round for ever, and counts.
	round := graph(write().do(11, 0, rcx, 1).do(13, 0, 0, -12).node())
	for _, n := range []int{math.MinInt, -1000, -1, 1001, 1002, 1 << 31, 1 << 32, math.MaxInt} {
		if s, err := block.Run(round, nil, n); !isCode(err, api.ErrArg) || !reflect.DeepEqual(s, block.State{}) {
			t.Errorf("%d steps: %+v, %v", n, s, err)
		}
	}
	for _, n := range []int{0, 1, 2, 3, 500, 999, 1000} {
		mustRun(t, round, nil, n, want{ip: at(0, uint64(n%2*7)), regs: map[int]block.Val{rcx: num(uint64(n+1) / 2)}})
	}
}

// P23.1: at first: Ip, rsp, the rest; wherever the entry is.
func TestAtFirst(t *testing.T) {
	for to := range 3 {
		for _, a := range []int{0, 1, 5, math.MaxInt32, math.MaxInt, -1, math.MinInt} {
			g := graph(code([]byte{195}), data([]byte("data")), zeros(9))
			g.To, g.At = to, a
			mustRun(t, g, []byte{1, 2}, 0, want{ip: at(to, uint64(a))})
			mustBeStuck(t, g, 0)
		}
	}
}

// P23.1: Op 1, 2, 3 and 8, at each register, without an edge.
func TestSettingRegisters(t *testing.T) {
	for m := range 8 {
		for _, v := range []int{0, 1, -1, math.MaxInt32, math.MinInt32, 0x1234567} {
			mustRun(t, graph(write().do(1, 0, m, v).node()), nil, 1, want{ip: at(0, 7), regs: map[int]block.Val{m: num(uint64(v))}})
			mustRun(t, graph(write().do(2, 0, m, v<<20).node()), nil, 1, want{ip: at(0, 10), regs: map[int]block.Val{m: num(uint64(v << 20))}})
			mustRun(t, graph(write().do(3, m, 0, v).node()), nil, 1, want{ip: at(0, 7), regs: map[int]block.Val{m: at(0, uint64(7+v))}})
			mustRun(t, graph(write().do(1, 0, rdi, 5).do(3, m, 0, v).node()), nil, 2, want{ip: at(0, 14), regs: map[int]block.Val{rdi: num(5), m: at(0, uint64(14+v))}})
		}
		for _, v := range []block.Val{num(7), at(0, 3), at(1, most), at(-1, 12)} {
			r := (m + 1) % 8
			if r == rsp {
				r = rcx
			}
			a := write().let(r, v).do(8, r, m, 0)
			mustRun(t, graph(a.node(), zeros(5)), nil, steps(node(v))+1, want{ip: at(0, uint64(len(a.b))), regs: map[int]block.Val{r: v, m: v}})
		}
	}
}

// node tells the node of a value; of a number one of which a place is laid into a register in one step.
func node(v block.Val) int {
	if v.Ptr {
		return v.Node
	}
	return 0
}

// both tells a graph with an instruction behind what lays two values into rcx and rdx, how many steps go ahead of it, and where it is.
func both(a, b block.Val, l ...[]byte) (g api.Graph, ahead int, from uint64) {
	w := write().let(rcx, a).let(rdx, b)
	from = uint64(len(w.b))
	w.b = slices.Concat(append([][]byte{w.b}, l...)...)
	return graph(w.node(), unique(zeros(9)), unique(data([]byte("12345678"))), data([]byte("abc")), unique(zeros(0))), steps(node(a)) + steps(node(b)), from
}

// P23.1: each sum: of two numbers, of a place and a number, either way, of two places none.
func TestSums(t *testing.T) {
	for _, c := range []struct {
		a, b, want block.Val
		ok         bool
	}{
		{num(2), num(3), num(5), true}, {num(most), num(2), num(1), true}, {num(1 << 63), num(1 << 63), num(0), true},
		{at(1, 5), num(3), at(1, 8), true}, {num(3), at(1, 5), at(1, 8), true}, {at(1, 5), num(most), at(1, 4), true}, {num(most - 4), at(2, 0), at(2, most-4), true},
		{at(-1, 5), num(3), at(-1, 8), true}, {num(3), at(-1, 5), at(-1, 8), true}, {at(0, 0), num(0), at(0, 0), true},
		{at(1, 5), at(1, 5), block.Val{}, false}, {at(1, 5), at(2, 0), block.Val{}, false}, {at(-1, 0), at(-1, 0), block.Val{}, false}, {at(-1, 0), at(1, 0), block.Val{}, false}, {at(1, 0), at(-1, 0), block.Val{}, false},
	} {
		g, ahead, from := both(c.a, c.b, in(9, rdx, rcx, 0))
		if !c.ok {
			mustBeStuck(t, g, ahead)
			continue
		}
		mustRun(t, g, nil, ahead+1, want{ip: at(0, from+3), regs: map[int]block.Val{rcx: c.want, rdx: c.b}})
	}
	for _, v := range []block.Val{num(4), at(1, 4), at(-1, 4), num(most), at(3, most-1)} {
		for _, more := range []int{0, 1, -4, -5, math.MaxInt32, math.MinInt32} {
			g, ahead, from := both(v, num(0), in(11, 0, rcx, more))
			moved := v
			moved.N += uint64(more)
			mustRun(t, g, nil, ahead+1, want{ip: at(0, from+7), regs: map[int]block.Val{rcx: moved}})
		}
	}
	// Of one register: a number twice; of a place nothing comes.
	g, ahead, from := both(num(4), num(0), in(9, rcx, rcx, 0))
	mustRun(t, g, nil, ahead+1, want{ip: at(0, from+3), regs: map[int]block.Val{rcx: num(8)}})
	g, ahead, _ = both(at(1, 4), num(0), in(9, rcx, rcx, 0))
	mustBeStuck(t, g, ahead)
}

// P23.1: each difference: of two numbers, of a place less a number, of two places of one node; of others none.
func TestDifferences(t *testing.T) {
	for _, c := range []struct {
		a, b, want block.Val
		ok         bool
	}{
		{num(5), num(3), num(2), true}, {num(3), num(5), num(most - 1), true}, {num(0), num(0), num(0), true},
		{at(1, 5), num(3), at(1, 2), true}, {at(1, 3), num(5), at(1, most-1), true}, {at(-1, 8), num(9), at(-1, most), true},
		{at(1, 5), at(1, 3), num(2), true}, {at(1, 3), at(1, 5), num(most - 1), true}, {at(-1, 5), at(-1, 5), num(0), true}, {at(0, most), at(0, 1), num(most - 1), true},
		{num(5), at(1, 5), block.Val{}, false}, {num(0), at(1, 0), block.Val{}, false}, {num(5), at(-1, 3), block.Val{}, false},
		{at(1, 5), at(2, 3), block.Val{}, false}, {at(-1, 5), at(1, 3), block.Val{}, false}, {at(1, 5), at(-1, 5), block.Val{}, false}, {at(0, 0), at(1, 0), block.Val{}, false},
	} {
		g, ahead, from := both(c.a, c.b, in(10, rdx, rcx, 0))
		if !c.ok {
			mustBeStuck(t, g, ahead)
			continue
		}
		mustRun(t, g, nil, ahead+1, want{ip: at(0, from+3), regs: map[int]block.Val{rcx: c.want, rdx: c.b}})
	}
	for _, v := range []block.Val{num(4), at(1, 4), at(-1, 4)} {
		g, ahead, from := both(v, num(0), in(10, rcx, rcx, 0))
		mustRun(t, g, nil, ahead+1, want{ip: at(0, from+3), regs: map[int]block.Val{rcx: num(0)}})
	}
}

// P23.1: jumps and calls without an edge stay in their node, wherever they go; what isn't code is stuck there.
func TestJumpsWithoutEdges(t *testing.T) {
	for _, v := range []int{0, 1, -1, -5, -6, 100, math.MaxInt32, math.MinInt32} {
		for op := 13; op <= 17; op++ {
			a := write().do(12, rax, rax, 0).do(op, 0, 0, v)
			next := uint64(len(a.b))
			on := next + uint64(v)
			if op == 15 || op == 16 {
				on = next
			}
			w := want{ip: at(0, on)}
			if op == 17 {
				w.regs = map[int]block.Val{rsp: at(-1, 248)}
			}
			mustRun(t, graph(a.node()), nil, 2, w)
			if on >= next {
				mustBeStuck(t, graph(a.node()), 2)
			}
		}
	}
}

// P23.1: Op 17, 18, 19; the next place stands on the stack, as a place; of 18 by rsp M as it was ahead of it.
func TestCalls(t *testing.T) {
	// There, and what is there is read, and back.
	a := write().by(17, 0, 0, api.RPLT32, 1, 0, -4).do(1, 0, rcx, 9)
	f := write().do(8, rsp, rbp, 0).do(4, rbx, rbp, 0).do(19, 0, 0, 0)
	g := graph(a.node(), f.node())
	mustRun(t, g, nil, 1, want{ip: at(1, 0), regs: map[int]block.Val{rsp: at(-1, 248)}})
	mustRun(t, g, nil, 3, want{ip: at(1, 10), regs: map[int]block.Val{rsp: at(-1, 248), rbp: at(-1, 248), rbx: at(0, 5)}})
	mustRun(t, g, nil, 5, want{ip: at(0, 12), regs: map[int]block.Val{rbp: at(-1, 248), rbx: at(0, 5), rcx: num(9)}})
	// By a register, also to what is no code, and to a number.
	for _, to := range []block.Val{at(1, 0), at(1, 3), at(2, 4), at(-1, 0), num(0), num(0x400000)} {
		for _, m := range []int{rax, rcx, rdx, rbx, rbp, rsi, rdi} {
			a := write().let(m, to).do(18, 0, m, 0)
			g := graph(a.node(), f.node(), data([]byte("data")))
			ahead := steps(node(to))
			mustRun(t, g, nil, ahead+1, want{ip: to, regs: map[int]block.Val{m: to, rsp: at(-1, 248)}})
			if !to.Ptr || to.Node != 1 {
				mustBeStuck(t, g, ahead+1)
			}
		}
	}
	mustRun(t, graph(write().do(18, 0, rsp, 0).node()), nil, 1, want{ip: at(-1, 256), regs: map[int]block.Val{rsp: at(-1, 248)}})
	g = graph(write().lea(rsp, 1, 16).do(18, 0, rsp, 0).node(), zeros(16))
	mustRun(t, g, nil, 2, want{ip: at(1, 16), regs: map[int]block.Val{rsp: at(1, 8)}})
	// The stack is where rsp is: in a node also, but not at a number, in what isn't written, and at an end.
	for _, c := range []struct {
		top block.Val
		ok  bool
	}{{at(1, 8), true}, {at(1, 16), true}, {at(1, 7), false}, {at(1, 17), false}, {at(1, 0), false}, {at(2, 8), false}, {num(0x100000100), false}, {num(0), false}, {at(-1, 8), true}, {at(-1, 7), false}, {at(-1, 257), false}, {at(0, 8), false}} {
		for _, last := range [][]byte{in(17, 0, 0, 0), in(18, 0, rbx, 0)} {
			w := write().let(rsp, c.top)
			w.b = append(w.b, last...)
			g := graph(w.node(), zeros(16), fixed(make([]byte, 16)))
			if s := hold(t, g, nil, steps(node(c.top))+1); (s.Status == 0) != c.ok {
				t.Errorf("%+v: %+v", c, s)
			}
			if !c.ok {
				mustBeStuck(t, g, steps(node(c.top)))
			}
		}
	}
	// Back: to a place, to a number, and, at first, where there is nothing.
	mustBeStuck(t, graph(code([]byte{195})), 0)
	g = graph(write().lea(rsp, 1, 0).do(19, 0, 0, 0).node(), data(figure(77, 8)))
	mustRun(t, g, nil, 2, want{ip: num(77), regs: map[int]block.Val{rsp: at(1, 8)}})
	mustBeStuck(t, g, 2)
	g = graph(write().lea(rsp, 1, 8).do(19, 0, 0, 0).node(), fixed(make([]byte, 16), edge(8, api.R64, 0, 3, 4)))
	mustRun(t, g, nil, 2, want{ip: at(0, 7), regs: map[int]block.Val{rsp: at(1, 16)}})
	for _, top := range []block.Val{at(1, 7), at(1, 9), num(5)} {
		mustBeStuck(t, graph(write().let(rsp, top).do(19, 0, 0, 0).node(), fixed(make([]byte, 16), edge(8, api.R64, 0, 3, 4))), 1)
	}
	deep := graph(write().do(17, 0, 0, -5).node())
	mustRun(t, deep, nil, 32, want{ip: at(0, 0), regs: map[int]block.Val{rsp: at(-1, 0)}})
	mustBeStuck(t, deep, 32)
}

// P23.1: Op 20: rax and rdi numbers, and places.
func TestSystem(t *testing.T) {
	read := graph(write().do(20, 0, 0, 0).do(8, rax, rbx, 0).do(1, 0, rax, 0).do(20, 0, 0, 0).node())
	mustRun(t, read, nil, 1, want{at(0, 2), 0, map[int]block.Val{rax: num(most)}, []api.Event{{Kind: 0, Val: most}}})
	mustRun(t, read, []byte{7}, 4, want{at(0, 14), 0, map[int]block.Val{rax: num(most), rbx: num(7)}, []api.Event{{Kind: 0, Val: 7}, {Kind: 0, Val: most}}})
	mustRun(t, read, []byte{255, 0, 9}, 4, want{at(0, 14), 0, map[int]block.Val{rax: num(0), rbx: num(255)}, []api.Event{{Kind: 0, Val: 255}, {Kind: 0, Val: 0}}})
	places := []block.Val{at(0, 0), at(1, 1), at(1, 60), at(-1, 0), at(-1, 1), at(-1, 60)}
	for _, v := range append(places, num(0), num(5), num(most)) {
		call := func(rax0 uint64) (api.Graph, int, uint64) {
			a := write().let(rdi, v).put(rax, rax0).do(20, 0, 0, 0)
			return graph(a.node(), zeros(9)), steps(node(v)) + 1, uint64(len(a.b))
		}
		for _, kind := range []uint64{1, 60} {
			g, ahead, next := call(kind)
			if v.Ptr {
				mustBeStuck(t, g, ahead)
				continue
			}
			for _, n := range []int{1, 2, 900} {
				if kind == 1 && n > 1 {
					continue
				}
				mustRun(t, g, nil, ahead+n, want{at(0, next), int(kind / 60), map[int]block.Val{rax: num(kind), rdi: v}, []api.Event{{Kind: int(kind), Val: v.N}}})
			}
		}
		// Of 0 rdi may be any.
		g, ahead, next := call(0)
		mustRun(t, g, []byte{3}, ahead+1, want{at(0, next), 0, map[int]block.Val{rax: num(3), rdi: v}, []api.Event{{Kind: 0, Val: 3}}})
		for _, kind := range []uint64{2, 59, 61, 256 + 1, 1 << 32, 1<<32 + 60, most} {
			g, ahead, _ := call(kind)
			mustBeStuck(t, g, ahead)
		}
	}
	for _, v := range places {
		mustBeStuck(t, graph(write().let(rax, v).do(20, 0, 0, 0).node(), zeros(9)), steps(v.Node))
	}
}

// P23.1: Ip where no step is done: at a number, a place of a node without Exec, of the stack, and about a node's end.
func TestWhereIpMayBe(t *testing.T) {
	five := in(1, 0, rcx, 5)
	for _, flags := range []int{0, api.Write, api.Merge, api.Write | api.Retain} {
		mustBeStuck(t, graph(filled(flags, five)), 0)
	}
	for _, flags := range []int{api.Exec, api.Exec | api.Retain | api.Order, api.Exec | 1<<40} {
		n := filled(flags, five)
		n.Type = 7
		mustRun(t, graph(n), nil, 1, want{ip: at(0, 7), regs: map[int]block.Val{rcx: num(5)}})
	}
	for _, to := range []block.Val{num(0), num(0x400000), num(most), at(-1, 0), at(-1, 255), at(-1, 256), at(2, 0), at(1, 7), at(1, 8), at(1, most), at(1, most-6), at(0, most), at(3, 0), at(4, 0)} {
		a := write().let(rcx, to).do(18, 0, rcx, 0)
		g := graph(a.node(), code(five), data(five), code(nil), zeros(20))
		mustBeStuck(t, g, steps(node(to))+1)
	}
	bare := zeros(20)
	bare.Flags |= api.Exec
	mustBeStuck(t, graph(bare), 0)
	// What was written to the stack isn't run, whatever it is.
	a := write().do(2, 0, rcx, 0x050f).lea(rbx, -1, 0).do(5, rcx, rbx, 0).do(18, 0, rbx, 0)
	mustBeStuck(t, graph(a.node()), 5)
}

// P23.1: an instruction cut off at its node's end, at each place, and none that begins; the node behind isn't gone on to.
func TestInstructionsCutOff(t *testing.T) {
	for op := 1; op <= 20; op++ {
		b := in(op, 0, 0, 0)
		for cut := range b {
			mustBeStuck(t, graph(code(b[:cut]), code(b[cut:])), 0)
			g := graph(code(slices.Concat(in(1, 0, rcx, 1), b[:cut])), code(b[cut:]))
			mustBeStuck(t, g, 1)
		}
	}
	for first := range 256 {
		for second := range 256 {
			hold(t, graph(code([]byte{byte(first), byte(second), 192, 1, 0, 0, 0})), nil, 2)
		}
	}
}

// P23.3: events of fewer steps are the first ones of more; what has ended, or is stuck, stays so.
func TestEventsOfFewerSteps(t *testing.T) {
	// Reads till there is nothing more, writes each byte, and ends with how many there were.
	a := write().do(1, 0, rax, 0).do(20, 0, 0, 0).do(1, 0, rdx, -1).do(12, rdx, rax, 0).do(14, 0, 0, 7+3+7+2+5).do(11, 0, rcx, 1).do(8, rax, rdi, 0).do(1, 0, rax, 1).do(20, 0, 0, 0).do(13, 0, 0, -(7+2+7+3+6+7+3+7+2+5)).do(8, rcx, rdi, 0).do(1, 0, rax, 60).do(20, 0, 0, 0)
	var last []api.Event
	for n := range 60 {
		s := hold(t, graph(a.node()), []byte{3, 1, 4}, n)
		if len(s.Events) < len(last) || !slices.Equal(s.Events[:len(last)], last) {
			t.Fatalf("behind %d steps: %+v; behind fewer: %+v", n, s.Events, last)
		}
		last = s.Events
	}
	if !slices.Equal(last, []api.Event{{Kind: 0, Val: 3}, {Kind: 1, Val: 3}, {Kind: 0, Val: 1}, {Kind: 1, Val: 1}, {Kind: 0, Val: 4}, {Kind: 1, Val: 4}, {Kind: 0, Val: most}, {Kind: 60, Val: 3}}) {
		t.Errorf("%+v", last)
	}
}

// P23.1: Addr of numbers, of places, of the stack, of a node that the plan hasn't; of any addresses.
func TestAddr(t *testing.T) {
	p := api.Plan{Addr: []int{0x400000, -1, 0, math.MaxInt, math.MinInt, -5, 7}}
	for _, c := range []struct {
		v    block.Val
		want uint64
	}{
		{num(0), 0}, {num(77), 77}, {num(most), most}, {num(1 << 63), 1 << 63}, {block.Val{Node: 3, N: 5}, 5}, {block.Val{Node: -1, N: 5}, 5}, {block.Val{Node: 99, N: 5}, 5},
		{at(0, 0), 0x400000}, {at(0, 5), 0x400005}, {at(0, most), 0x3fffff}, {at(0, 1<<63), 1<<63 + 0x400000},
		{at(1, 0), most}, {at(1, 1), 0}, {at(1, 5), 4}, {at(2, 9), 9}, {at(3, 0), 1<<63 - 1}, {at(3, 1), 1 << 63}, {at(3, 1<<63+1), 0}, {at(4, 0), 1 << 63}, {at(4, 1<<63), 0}, {at(5, 4), most}, {at(5, 5), 0}, {at(6, 1), 8},
		{at(-1, 0), 1 << 32}, {at(-1, 256), 1<<32 + 256}, {at(-1, most), 1<<32 - 1}, {at(-1, most-(1<<32)+1), 0},
		{at(7, 0), 0}, {at(7, 5), 0}, {at(-2, 5), 0}, {at(math.MaxInt, 5), 0}, {at(math.MinInt, 5), 0},
	} {
		if got := block.Addr(c.v, p); got != c.want {
			t.Errorf("Addr(%+v) = %x; want %x", c.v, got, c.want)
		}
	}
	for _, v := range []block.Val{at(0, 5), at(1, 0)} {
		if got := block.Addr(v, api.Plan{}); got != 0 {
			t.Errorf("Addr(%+v) of no plan = %x", v, got)
		}
	}
	if got := block.Addr(at(-1, 8), api.Plan{}); got != 1<<32+8 {
		t.Errorf("the stack is at %x", got)
	}
	if !slices.Equal(p.Addr, []int{0x400000, -1, 0, math.MaxInt, math.MinInt, -5, 7}) {
		t.Error("the plan was changed")
	}
}
