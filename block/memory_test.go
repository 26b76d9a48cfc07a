package block_test

import (
	"reflect"
	"slices"
	"testing"

	"fishplate/api"
	"fishplate/block"
)

// shelf is the bytes of nodes that are read and written here: places at 8, 44, 60, and, side by side, 72 and 80; numbers by edges at 24 and 52; at 36 another edge.
func shelf() ([]byte, []api.Edge) {
	b := []byte("0123456789abcdefghijklmnopqrstuvwxyzABCDEFGHIJKLMNOPQRSTUVWXYZ0123456789abcdefghijklmnop")
	return b, []api.Edge{edge(8, api.R64, 0, 3, -1), edge(24, api.R64, -1, 0x1122, 0x33), edge(36, api.R32, 1, 0, 0), edge(44, api.R64, 2, 1, 1), edge(52, api.R64, -1, 0, -1), edge(60, api.R64, 1, 0, 5), edge(72, api.R64, 3, 4, 0), edge(80, api.R64, 0, 0, 1)}
}

// shelves tells a graph with code and, as nodes 1 and 2, the shelf: one that is written, and one that isn't; the first one's name is unique.
func shelves(a *author) api.Graph {
	b, edges := shelf()
	return graph(a.node(), unique(data(b, edges...)), fixed(slices.Clone(b), slices.Clone(edges)...), zeros(20))
}

// numberAt tells the number that so many bytes of the shelf are.
func numberAt(from, width int) block.Val {
	b, _ := shelf()
	n := uint64(0)
	for i := width - 1; i >= 0; i-- {
		n = n*256 + uint64(b[from+i])
	}
	return num(n)
}

// P23.1: eight bytes read at each place of a shelf, by hand: a place where one stands, a number where there is no place and no other edge; else none.
func TestReadingEightBytes(t *testing.T) {
	wants := map[int]block.Val{8: at(0, 2), 24: num(0x1155), 44: at(2, 2), 52: num(most), 60: at(1, 5), 72: at(3, 4), 80: at(0, 1)}
	for i := range 8 {
		// Numbers by edges are bytes as others are, and are read in part.
		before, own := numberAt(16+i, 8-i).N, uint64(0x1155)
		if i == 0 {
			wants[16] = numberAt(16, 8)
			continue
		}
		wants[16+i] = num(before | own<<(64-8*i))
		wants[24+i] = num(own>>(8*i) | numberAt(32, i).N<<(64-8*i))
		if i > 4 {
			delete(wants, 24+i)
		}
	}
	wants[0] = numberAt(0, 8)
	for node := 1; node <= 2; node++ {
		for from := -9; from < 100; from++ {
			g := shelves(write().lea(rbx, node, 0).do(4, rcx, rbx, from))
			v, ok := wants[from]
			if !ok {
				mustBeStuck(t, g, 1)
				continue
			}
			mustRun(t, g, nil, 2, want{ip: at(0, 17), regs: map[int]block.Val{rbx: at(node, 0), rcx: v}})
		}
	}
}

// P23.1: a byte read at each place of a shelf, by hand.
func TestReadingAByte(t *testing.T) {
	of := func(from, end, i int) bool { return i >= from && i < end }
	for node := 1; node <= 2; node++ {
		for from := -9; from < 100; from++ {
			g := shelves(write().lea(rbx, node, 0).do(6, rcx, rbx, from))
			if from < 0 || from >= 88 || of(72, 88, from) || of(8, 16, from) || of(36, 40, from) || of(44, 52, from) || of(60, 68, from) {
				mustBeStuck(t, g, 1)
				continue
			}
			v := numberAt(from, 1)
			if of(24, 32, from) {
				v = num([]uint64{0x55, 0x11, 0, 0, 0, 0, 0, 0}[from-24])
			}
			if of(52, 60, from) {
				v = num(255)
			}
			mustRun(t, g, nil, 2, want{ip: at(0, 18), regs: map[int]block.Val{rbx: at(node, 0), rcx: v}})
		}
	}
}

// P23.1: eight bytes, a number and a place, and a byte, written to each place of a shelf, by hand; and what is read then.
func TestWriting(t *testing.T) {
	const v = 0x8182838485868788
	parts := func(from, width int) bool {
		for _, e := range [][2]int{{8, 16}, {36, 40}, {44, 52}, {60, 68}, {72, 80}, {80, 88}} {
			if from < e[1] && from+width > e[0] && (width < 8 || from != e[0] || e[0] == 36) {
				return true
			}
		}
		return false
	}
	for node := 1; node <= 2; node++ {
		for from := -9; from < 100; from++ {
			for _, value := range []block.Val{num(v), at(3, 9), at(-1, 7), at(1, 0)} {
				a := write().lea(rbx, node, 0).let(rcx, value)
				ahead := 1 + steps(value.Node)
				for _, c := range []struct {
					op, width int
				}{{5, 8}, {7, 1}} {
					w := *a
					w.b = slices.Clone(w.b)
					w.do(c.op, rcx, rbx, from).do(map[int]int{8: 4, 1: 6}[c.width], rdx, rbx, from)
					g := shelves(&w)
					if node == 2 || from < 0 || from+c.width > 88 || parts(from, c.width) || c.width == 1 && value.Ptr {
						mustBeStuck(t, g, ahead)
						continue
					}
					told := value
					if c.width == 1 {
						told = num(v & 255)
					}
					mustRun(t, g, nil, ahead+2, want{ip: at(0, uint64(len(w.b))), regs: map[int]block.Val{rbx: at(1, 0), rcx: value, rdx: told}})
				}
			}
		}
	}
}

// P23.1: what stands beside what was written, and over it: each place that is read behind two writings.
func TestReadingWhatWasWritten(t *testing.T) {
	values := []block.Val{num(0x8182838485868788), at(3, 9), at(-1, 7)}
	for _, first := range values {
		for _, second := range values {
			for _, apart := range []int{0, 1, 4, 7, 8, -1, -8, 20} {
				for _, node := range []int{1, -1, 3} {
					from, size := 16, 20
					if node == 3 {
						from = 8
					}
					if from+apart+8 > size && node == 3 {
						continue
					}
					a := write().lea(rbx, node, uint64(from)).let(rcx, first).let(rdx, second).do(5, rcx, rbx, 0).do(5, rdx, rbx, apart)
					ahead := steps(node) + steps(first.Node) + steps(second.Node)
					s := hold(t, shelves(a), nil, ahead+2)
					over := apart > -8 && apart < 8 && apart != 0
					// In node 1 these reach into a place, and into another edge.
					edges := node == 1 && (apart == -1 || apart == 20)
					if stuck := over && first.Ptr || edges; (s.Status == 2) != stuck {
						t.Errorf("%+v, then %+v %d apart in %d: %+v", first, second, apart, node, s)
					}
					if s.Status == 2 {
						continue
					}
					for i := -10; i < 30; i++ {
						for _, op := range []int{4, 6} {
							w := *a
							w.b = slices.Clone(w.b)
							hold(t, shelves(w.do(op, rsi, rbx, i)), nil, ahead+3)
						}
					}
				}
			}
		}
	}
}

// P23.1: what was a place is written over whole by a number, and then its bytes are ones as others are.
func TestAPlaceWrittenOver(t *testing.T) {
	a := write().lea(rbx, 1, 8).put(rcx, 0x8182838485868788).do(5, rcx, rbx, 0).do(6, rdx, rbx, 3).do(1, 0, rcx, 0x41).do(7, rcx, rbx, 3).do(4, rsi, rbx, 0).do(4, rdi, rbx, 1)
	mustRun(t, shelves(a), nil, 8, want{ip: at(0, uint64(len(a.b))), regs: map[int]block.Val{
		rbx: at(1, 8), rcx: num(0x41), rdx: num(0x85), rsi: num(0x8182838441868788), rdi: num(0x6781828384418687),
	}})
	// And a number by a place; a number by an edge by a place that reaches over its end.
	a = write().lea(rbx, 1, 28).lea(rcx, 3, 1).do(5, rcx, rbx, 0).do(4, rdx, rbx, 0).do(6, rsi, rbx, -1)
	mustRun(t, shelves(a), nil, 5, want{ip: at(0, uint64(len(a.b))), regs: map[int]block.Val{rbx: at(1, 28), rcx: at(3, 1), rdx: at(3, 1), rsi: num(0)}})
	mustBeStuck(t, shelves(a.do(6, rsi, rbx, 0)), 5)
}

// P23.1: bytes at each node's beginning and end, one before and one beyond, and N that turns over; at numbers there are none.
func TestEndsOfNodes(t *testing.T) {
	nodes := []api.Node{data([]byte("0123456789ab")), fixed([]byte("0123456789ab")), zeros(12), filled(api.Merge|api.Strings, []byte("0123456789a\x00")), code([]byte("0123456789ab")), zeros(0), data([]byte("x")), zeros(api.MaxAddr)}
	for i := -1; i < len(nodes); i++ {
		size, written := 256, true
		node := i
		if i >= 0 {
			size, written, node = nodes[i].Size, nodes[i].Flags&api.Write != 0, i+1
		}
		for _, end := range []int{0, size, 1 << 31, 1 << 32} {
			for more := -10; more <= 10; more++ {
				n := end + more
				for _, op := range []int{4, 5, 6, 7} {
					many := map[int]int{4: 8, 5: 8, 6: 1, 7: 1}[op]
					ok := n >= 0 && n+many <= size && (written || op%2 == 0)
					for _, far := range []int{0, 100, -100, 1 << 30} {
						if node == -1 && n-far-256 != int(int32(n-far-256)) {
							continue
						}
						a := write().lea(rbx, node, uint64(n-far)).do(op, rcx, rbx, far)
						s := hold(t, graph(append([]api.Node{a.node()}, nodes...)...), nil, steps(node)+1)
						if (s.Status == 0) != ok {
							t.Errorf("Op %d at %d of node %d: %+v", op, n, node, s)
						}
					}
				}
			}
		}
	}
	for _, n := range []uint64{0, 1, 0x400000, 0x402000, 1 << 32, 1<<32 + 8, most} {
		for _, op := range []int{4, 5, 6, 7} {
			mustBeStuck(t, graph(write().put(rbx, n).do(op, rcx, rbx, 0).node(), zeros(20)), 1)
		}
	}
}

// P23.1: a number and a place by the field, either way, and two places, of which no sum comes.
func TestPlacesOfFields(t *testing.T) {
	for _, op := range []int{4, 5, 6, 7} {
		for _, c := range []struct {
			reg   block.Val
			to, a int
			ok    bool
		}{{num(3), 1, 2, true}, {num(most), 1, 2, true}, {num(most - 1), 1, 2, true}, {num(most - 2), 1, 2, false}, {at(1, 0), 1, 0, false}, {at(-1, 0), 1, 0, false}, {at(1, 2), -1, 3, true}, {num(2), -1, 3, false}, {at(-1, 0), -1, 248, true}, {at(-1, 0), -1, 256, false}} {
			a := write().let(rbx, c.reg).do(1, 0, rcx, 65).by(op, rcx, rbx, api.R32S, c.to, c.a, 0)
			g := graph(a.node(), data([]byte("0123456789abcdef")))
			s := hold(t, g, nil, steps(node(c.reg))+2)
			if (s.Status == 0) != c.ok {
				t.Errorf("Op %d, %+v: %+v", op, c, s)
			}
		}
	}
}

// P23.1: rsp is a register as others are, but for Op 4 to 7; what is at its end may be written by way of another one.
func TestTheStack(t *testing.T) {
	a := write().do(11, 0, rsp, -16).do(8, rsp, rbp, 0).do(4, rax, rbp, 0).do(4, rcx, rbp, 8).lea(rbx, 0, 5).do(5, rbx, rbp, 8).do(5, rsp, rbp, 0).do(4, rdx, rbp, 8).do(4, rsi, rbp, 0)
	mustRun(t, graph(a.node()), nil, 9, want{ip: at(0, uint64(len(a.b))), regs: map[int]block.Val{rsp: at(-1, 240), rbp: at(-1, 240), rbx: at(0, 5), rdx: at(0, 5), rsi: at(-1, 240)}})
	mustBeStuck(t, graph(a.do(4, rdi, rbp, 1).node()), 9)
}

// roomy tells a list in new memory that has room for some more, which are filled, so that it is to be seen whether they get written.
func roomy[T any](l []T, more T) []T {
	long := append(make([]T, 0, len(l)+3), l...)
	return append(long, more, more, more)[:len(l)]
}

// copied tells a graph of which nothing is shared with another.
func copied(g api.Graph) api.Graph {
	g.Nodes = roomy(g.Nodes, zeros(1))
	for i, n := range g.Nodes {
		g.Nodes[i].Data = roomy(n.Data, 99)
		g.Nodes[i].Edges = roomy(n.Edges, edge(99, 99, 99, 99, 99))
	}
	g.Names = roomy(g.Names, api.Name{Name: "z", To: 99})
	return g
}

// whole tells all that a graph has, also what stands behind its lists' ends.
func whole(g api.Graph) []any {
	all := []any{g.To, g.At, g.Nodes[:cap(g.Nodes)], g.Names[:cap(g.Names)]}
	for _, n := range g.Nodes {
		all = append(all, n.Data[:cap(n.Data)], n.Edges[:cap(n.Edges)])
	}
	return all
}

// fill fills a list, also behind its end.
func fill[T any](l []T, with T) {
	l = l[:cap(l)]
	for i := range l {
		l[i] = with
	}
}

// P23.2, R2: what is told is new memory, and nothing that is handed in is changed, also not behind its end; the next one that runs a graph finds it as it was.
func TestAnswersAreNewMemory(t *testing.T) {
	a := write().do(20, 0, 0, 0).lea(rbx, 1, 8).do(4, rcx, rbx, 0).do(5, rbx, rbx, 0).do(1, 0, rdx, 7).do(7, rdx, rbx, -1).do(5, rdx, rbx, 8).do(1, 0, rax, 1).do(20, 0, 0, 0).do(1, 0, rax, 60).do(20, 0, 0, 0)
	like, likeTape := shelves(a), []byte{3, 4}
	want, _ := plain(like, likeTape, 20)
	if len(want.Events) != 3 || want.Status != 1 || want.Regs[rcx] != at(0, 2) {
		t.Fatalf("%+v", want)
	}
	g, tape := copied(like), roomy(likeTape, 88)
	first, _ := block.Run(g, tape, 20)
	second, _ := block.Run(g, tape, 20)
	fill(first.Events, api.Event{Kind: 9})
	if !same(second, want) {
		t.Errorf("%+v; want %+v", second, want)
	}
	if third := hold(t, g, tape, 20); !same(third, want) {
		t.Errorf("%+v; want %+v", third, want)
	}
	if !reflect.DeepEqual(whole(g), whole(copied(like))) || !slices.Equal(tape[:5], []byte{3, 4, 88, 88, 88}) {
		t.Error("what was handed in was changed")
	}
	for i := range g.Nodes {
		fill(g.Nodes[i].Data, 0)
	}
	fill(g.Nodes, zeros(3))
	fill(tape, 0)
	if !same(second, want) {
		t.Errorf("%+v; want %+v", second, want)
	}
}
