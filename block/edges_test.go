package block_test

import (
	"math"
	"slices"
	"testing"

	"fishplate/api"
	"fishplate/block"
)

// kinds are all types of edges.
var kinds = []int{api.R64, api.RPC32, api.RPLT32, api.R32, api.R32S}

// width tells of how many bytes an edge of a type is.
func width(kind int) int {
	if kind == api.R64 {
		return 8
	}
	return 4
}

// ahead is how many bytes stand ahead of an instruction with an edge: it lays a place in the stack into rbx, and 16 into rcx.
var ahead = write().do(8, rsp, rbx, 0).do(1, 0, rcx, 16).do(12, rax, rax, 0)

// single tells a graph with one instruction behind that, and edges counted from its beginning on.
func single(op, r, m, imm int, edges ...api.Edge) api.Graph {
	from := len(ahead.b)
	for i := range edges {
		edges[i].Off += from
	}
	b := slices.Concat(ahead.b, in(op, r, m, imm), make([]byte, 8))
	return graph(code(b, edges...), data([]byte("0123456789abcdefghijklmnopqrstuvwxyz")), zeros(40))
}

// P23.1: the field's value by an edge of each type that it may have: To a node, its own one, another one, a number; At and Add.
func TestFieldsByEdges(t *testing.T) {
	for op := 1; op <= 20; op++ {
		for _, kind := range fits(op) {
			for to := -1; to <= 2; to++ {
				for _, a := range []int{0, 1, 7, math.MaxInt32} {
					for _, add := range []int{0, 1, -4, -5, 1 << 40, math.MaxInt, math.MinInt} {
						value := block.Val{Ptr: to >= 0, Node: max(to, 0), N: uint64(a + add)}
						if kind == api.RPC32 || kind == api.RPLT32 {
							value.N += 4
						}
						mustBeField(t, op, edge(fieldOf(op), kind, to, a, add), value)
					}
				}
			}
		}
	}
}

// mustBeField holds that an instruction with an edge in its field goes by a value.
func mustBeField(t *testing.T, op int, e api.Edge, value block.Val) {
	t.Helper()
	m := rcx
	if !value.Ptr && op >= 4 && op <= 7 {
		m = rbx
	}
	r := rdx
	// What stands in the bytes themselves counts nothing.
	for _, imm := range []int{0, -1, 0x1234} {
		g := single(op, r, m, imm, e)
		next := at(0, uint64(len(ahead.b)+len(in(op, 0, 0, 0))))
		regs := map[int]block.Val{rbx: at(-1, 256), rcx: num(16)}
		w := want{ip: next, regs: regs}
		switch op {
		case 1, 2:
			regs[m] = value
		case 3:
			regs[r] = value
		case 11:
			value.N += 16
			regs[m] = value
			value.N -= 16
		case 13, 14:
			w.ip = value
		case 17:
			w.ip = value
			regs[rsp] = at(-1, 248)
		case 4, 5, 6, 7:
			// Whether there is something to read, or to write, others ask.
			s := hold(t, g, nil, 4)
			from := value
			from.N += 16
			if m == rbx {
				from = at(-1, 256+value.N)
			}
			if ok := reaches(g, from, op); ok != (s.Status == 0) {
				t.Errorf("Op %d by %+v: %+v", op, e, s)
			}
			continue
		}
		mustRun(t, g, nil, 4, w)
	}
}

// reaches tells whether Op 4 to 7 may be done at a place of the graphs of these tests, to which a number is written.
func reaches(g api.Graph, v block.Val, op int) bool {
	many := uint64(8)
	if op >= 6 {
		many = 1
	}
	size := uint64(256)
	if v.Node >= 0 {
		size = uint64(g.Nodes[v.Node].Size)
	}
	if v.N > size || size-v.N < many {
		return false
	}
	if v.Node != 0 {
		return true
	}
	e := g.Nodes[0].Edges[0]
	apart := v.N+many <= uint64(e.Off) || v.N >= uint64(e.Off+width(e.Type))
	return apart && op%2 == 0
}

// P23.1: an edge of a type that an instruction may not have; in those without a field each.
func TestEdgesThatMayNotBe(t *testing.T) {
	for op := 1; op <= 20; op++ {
		for _, kind := range kinds {
			for to := -1; to <= 2; to++ {
				g := single(op, rdx, rcx, 0, edge(fieldOf(op), kind, to, 0, 0))
				if slices.Contains(fits(op), kind) {
					hold(t, g, nil, 4)
					continue
				}
				mustBeStuck(t, g, 3)
			}
		}
	}
}

// P23.1: an edge whose Off isn't the field's: each one of which a byte is in the instruction; beside it, at either end, one counts nothing.
func TestEdgesBesideTheField(t *testing.T) {
	for op := 1; op <= 20; op++ {
		size := len(in(op, 0, 0, 0))
		for _, kind := range kinds {
			for off := -9; off <= size; off++ {
				if off == fieldOf(op) && slices.Contains(fits(op), kind) {
					continue
				}
				e := edge(off, kind, 1, 0, 0)
				if off >= size || off+width(kind) <= 0 {
					with, without := hold(t, single(op, rdx, rcx, 0, e), nil, 4), hold(t, single(op, rdx, rcx, 0), nil, 4)
					// What is ahead may be stuck by it.
					if off >= size && !same(with, without) {
						t.Errorf("Op %d, an edge behind it: %+v; want %+v", op, with, without)
					}
					continue
				}
				g := single(op, rdx, rcx, 0, e)
				if off >= 0 {
					mustBeStuck(t, g, 3)
					continue
				}
				// Its first bytes are in the instruction ahead; so that one is jumped over.
				g.Nodes[0].Data = slices.Concat(in(13, 0, 0, 20), make([]byte, 20), in(op, rdx, rcx, 0), make([]byte, 8))
				g.Nodes[0].Size = len(g.Nodes[0].Data)
				g.Nodes[0].Edges[0].Off = 25 + off
				mustBeStuck(t, g, 1)
			}
		}
	}
}

// P23.1: two edges in one instruction, one of them in its field.
func TestTwoEdges(t *testing.T) {
	for op := 1; op <= 20; op++ {
		size := len(in(op, 0, 0, 0))
		for _, kind := range fits(op) {
			own := edge(fieldOf(op), kind, 1, 0, 0)
			if own.Off+width(kind) != size {
				t.Fatalf("the field of Op %d doesn't end with it", op)
			}
			for _, other := range kinds {
				// One that ends in the instruction, ahead of its field.
				for off := 1 - width(other); off+width(other) <= own.Off; off++ {
					g := single(op, rdx, rcx, 0, edge(off, other, 1, 0, 0), own)
					b := slices.Concat(in(13, 0, 0, 20), make([]byte, 20), in(op, rdx, rcx, 0), make([]byte, 8))
					g.Nodes[0] = code(b, edge(25+off, other, 1, 0, 0), edge(25+own.Off, kind, 1, 0, 0))
					mustBeStuck(t, g, 1)
				}
				// Those beside it, ahead and behind, count nothing.
				b := slices.Concat(in(13, 0, 0, 20), make([]byte, 20), in(op, rdx, rcx, 0), make([]byte, 8))
				near := graph(code(b, edge(25-width(other), other, 1, 0, 0), edge(25+own.Off, kind, 1, 0, 0), edge(25+size, other, 2, 0, 0)), data([]byte("0123456789abcdefghijklmnopqrstuvwxyz")), zeros(40))
				alone := graph(code(b, edge(25+own.Off, kind, 1, 0, 0)), near.Nodes[1], near.Nodes[2])
				if with, without := hold(t, near, nil, 2), hold(t, alone, nil, 2); !same(with, without) {
					t.Errorf("Op %d: %+v; want %+v", op, with, without)
				}
			}
		}
	}
}

// P23.1: many edges in a node: each instruction has its own one.
func TestManyEdges(t *testing.T) {
	a := write()
	for i := range 300 {
		a.by(2, 0, rcx, api.R64, i%3, i, 1)
		a.by(3, rdx, 0, api.RPC32, i%2, 0, i)
		a.do(11, 0, rbx, 1)
	}
	g := graph(a.node(), zeros(5), zeros(6))
	for n := range 900 {
		s := hold(t, g, nil, n)
		if i := (n - 1) / 3; n > 0 && n%3 == 1 && s.Regs[rcx] != at(i%3, uint64(i+1)) {
			t.Fatalf("behind %d steps: %+v", n, s)
		}
	}
}
