package block_test

import (
	"slices"
	"testing"

	"fishplate/api"
	"fishplate/block"
)

// value tells a value by where the counter is, of a graph of so many nodes.
func (c *counter) value(nodes int) block.Val {
	if c.next(3) == 0 {
		return num([]uint64{0, 1, 60, 8, most, most - 7, uint64(c.next(99))}[c.next(7)])
	}
	return at(c.next(nodes+1)-1, uint64(c.next(26)))
}

// edge tells an edge by where the counter is, of a graph of so many nodes.
func (c *counter) edge(off, kind, nodes int) api.Edge {
	return edge(off, kind, c.next(nodes+1)-1, c.next(12), c.next(9)-4)
}

// step writes an instruction by where the counter is, and what makes it likelier that something comes of it.
func (c *counter) step(a *author, nodes int) {
	op, r, m := 1+c.next(20), c.next(8), c.next(8)
	if (r == rsp || m == rsp) && c.next(4) > 0 {
		r, m = rcx, rbx
	}
	if op >= 4 && op <= 7 && m == rsp {
		m = rbp
	}
	imm := c.next(30) - 10
	switch {
	case op >= 4 && op <= 7 && c.next(4) > 0:
		v := c.value(nodes)
		v.N = v.N / 8 * 8
		a.let(m, v)
		imm = c.next(3) * 8
	case op == 20 && c.next(4) > 0:
		a.do(1, 0, rax, []int{0, 1, 1, 1, 60}[c.next(5)])
		if c.next(2) == 0 {
			a.do(1, 0, rdi, imm)
		}
	case op >= 14 && op <= 16 && c.next(4) > 0:
		a.let(rcx, c.value(nodes)).let(rdx, c.value(nodes)).do(12, rdx, rcx, 0)
	case op == 18 && c.next(3) > 0:
		a.let(m, at(c.next(nodes), 0))
	case op == 19 && c.next(2) > 0:
		return
	}
	if l := fits(op); len(l) > 0 && c.next(3) == 0 {
		kind := l[c.next(len(l))]
		if c.next(12) == 0 {
			kind = kinds[c.next(len(kinds))]
		}
		if kind != api.R64 || op == 2 {
			a.edges = append(a.edges, c.edge(len(a.b)+fieldOf(op), kind, nodes))
		}
	}
	a.do(op, r, m, imm)
}

// node tells a node by where the counter is, of a graph of so many nodes.
func (c *counter) node(nodes int) api.Node {
	var n api.Node
	switch c.next(7) {
	case 0:
		n = zeros(8 * c.next(5))
	case 1, 2, 3:
		b := make([]byte, 8*c.next(5))
		for i := range b {
			b[i] = byte(c.next(256))
		}
		n = data(b)
		if c.next(3) == 0 {
			n = fixed(b)
		}
		for off := 4 * c.next(3); off+8 <= len(b); off += 8 + 4*c.next(3) {
			n.Edges = append(n.Edges, c.edge(off, []int{api.R64, api.R64, api.R64, api.R32, api.RPC32}[c.next(5)], nodes))
		}
	default:
		a := write()
		for range 1 + c.next(6) {
			c.step(a, nodes)
		}
		if c.next(2) == 0 {
			a.do(19, 0, 0, 0)
		}
		n = a.node()
	}
	n.Unique = c.next(3) > 0
	return n
}

// P23.1, P23.3: many small graphs, by each number of steps.
func TestCountedGraphs(t *testing.T) {
	var c counter
	met := map[int]int{}
	events, far := 0, 0
	for range 30000 {
		many := 1 + c.next(5)
		var g api.Graph
		for range many {
			g.Nodes = append(g.Nodes, c.node(many+1))
		}
		first := write()
		for range 2 + c.next(9) {
			c.step(first, many+1)
		}
		g.Nodes = append(g.Nodes, first.node())
		g.To = many
		tape := []byte{1, 2, 3}[:c.next(4)]
		var last block.State
		for _, n := range []int{0, 1, 2, 3, 4, 5, 6, 7, 8, 10, 12, 16, 20, 30} {
			s := hold(t, g, tape, n)
			if len(s.Events) < len(last.Events) || !slices.Equal(s.Events[:len(last.Events)], last.Events) {
				t.Fatalf("of %+v events are %+v behind %d steps; behind fewer %+v", g, s.Events, n, last.Events)
			}
			if last.Status != 0 && !same(s, last) {
				t.Fatalf("%+v had ended, or was stuck, with %+v; then %+v", g, last, s)
			}
			if n == 12 && s.Status != 2 {
				far++
			}
			last = s
		}
		met[last.Status]++
		events += len(last.Events)
	}
	if min(met[0], met[1], met[2]) < 200 || events < 2500 || far < 1000 {
		t.Errorf("met: %v, events: %d, so far without being stuck: %d", met, events, far)
	}
}

// P1, P23.1: graphs of nodes of any flags and sizes, with what isn't looked at set to anything; nodes that are run and written both end, too.
func TestGraphsOfAnyKind(t *testing.T) {
	var c counter
	for range 3000 {
		many := 1 + c.next(4)
		var g api.Graph
		for range many {
			n := c.node(many)
			n.Flags = c.next(1024)
			if c.next(2) == 0 {
				n.Flags |= api.Exec
			}
			g.Nodes = append(g.Nodes, n)
		}
		g.To, g.At = c.next(many), c.next(9)-2
		like := copied(g)
		for i := range g.Nodes {
			n := &g.Nodes[i]
			n.Obj, n.Sec, n.Pos, n.Name, n.Type, n.Align, n.Ent, n.Group, n.Link = -5, 1<<40, -1, "name\x00", 77, -3, -9, -1, -7
		}
		g.Names = []api.Name{{Name: "z", To: -9}}
		for _, n := range []int{0, 1, 5, 1000} {
			a, err := block.Run(g, nil, n)
			b, other := block.Run(like, nil, n)
			if err != nil || other != nil || !same(a, b) {
				t.Fatalf("%+v, %v; %+v, %v", a, err, b, other)
			}
		}
	}
}
