package block

import (
	"sort"

	"fishplate/api"
	"fishplate/le"
	"fishplate/rela"
)

// stack is the number of the node that the stack is.
const stack = -1

// memory is nodes, and what was written.
type memory struct {
	nodes   []api.Node
	written map[spot]cell
}

// spot is where a byte is.
type spot struct {
	node int
	at   uint64
}

// cell is what stands where a byte is.
type cell struct {
	kind int
	b    byte   // of a number
	val  Val    // a place
	from uint64 // and where it begins
}

// Kinds of cells.
const (
	ofNumber = iota
	ofPlace
	shut // by an edge that is no value
)

// newMemory tells memory at first.
func newMemory(nodes []api.Node) memory {
	return memory{nodes: nodes, written: map[spot]cell{}}
}

// node tells a node, or the stack; one of nothing, if there is none.
func (m memory) node(i int) api.Node {
	switch {
	case i == stack:
		return api.Node{Flags: api.Write, Size: api.StackLen, Unique: true}
	case i < 0 || i >= len(m.nodes):
		return api.Node{}
	}
	return m.nodes[i]
}

// has tells whether there are so many bytes at a value, and all are within its node.
func (m memory) has(v Val, many int) bool {
	if !v.Ptr {
		return false
	}
	size := uint64(m.node(v.Node).Size)
	return v.N < size && uint64(many) <= size-v.N
}

// edgesIn tells the edges of which a byte is at a place from one on to another one.
func edgesIn(n api.Node, from, to uint64) []api.Edge {
	first := sort.Search(len(n.Edges), func(i int) bool { return uint64(end(n.Edges[i])) > from })
	last := first
	for last < len(n.Edges) && uint64(n.Edges[last].Off) < to {
		last++
	}
	return n.Edges[first:last]
}

// end tells the place just behind an edge's bytes.
func end(e api.Edge) int { return e.Off + rela.Width(e.Type) }

// target tells the value that an edge is, by its type.
func target(e api.Edge) Val {
	n := uint64(e.At) + uint64(e.Add)
	if e.Type == api.RPC32 || e.Type == api.RPLT32 {
		// It is told from where its field is on, which ends four bytes later, where the next instruction is.
		n += 4
	}
	if e.To < 0 {
		return number(n)
	}
	return place(e.To, n)
}

// cell tells what stands where a byte of a node is.
func (m memory) cell(s spot) cell {
	if c, ok := m.written[s]; ok {
		return c
	}
	n := m.node(s.node)
	if l := edgesIn(n, s.at, s.at+1); len(l) > 0 {
		return cellOf(l[0], s.at)
	}
	return cell{b: byteOf(n, s.at)}
}

// cellOf tells what stands at a byte of an edge at first.
func cellOf(e api.Edge, at uint64) cell {
	v, from := target(e), uint64(e.Off)
	switch {
	case e.Type != api.R64:
		return cell{kind: shut}
	case v.Ptr:
		return cell{kind: ofPlace, val: v, from: from}
	}
	return cell{b: le.Put(v.N, 8)[at-from]}
}

// byteOf tells a byte that is a node's own.
func byteOf(n api.Node, at uint64) byte {
	if at < uint64(len(n.Data)) {
		return n.Data[at]
	}
	return 0
}

// read tells the value of so many bytes at a place, if there is one.
func (m memory) read(v Val, width int) (Val, bool) {
	if !m.has(v, width) {
		return Val{}, false
	}
	first := m.cell(spot{v.Node, v.N})
	if width == 8 && first.kind == ofPlace && first.from == v.N {
		return first.val, true
	}
	b := make([]byte, width)
	for i := range b {
		c := m.cell(spot{v.Node, v.N + uint64(i)})
		if c.kind != ofNumber {
			return Val{}, false
		}
		b[i] = c.b
	}
	n, _ := le.Get(b, 0, width)
	return number(n), true
}

// write writes a value's bytes to a place; false, if nothing comes of it: then nothing is written.
func (m memory) write(to, v Val, width int) bool {
	if !m.has(to, width) || m.node(to.Node).Flags&api.Write == 0 || width < 8 && v.Ptr {
		return false
	}
	for i := range width {
		c := m.cell(spot{to.Node, to.N + uint64(i)})
		isWhole := width == 8 && c.from == to.N
		if c.kind == shut || c.kind == ofPlace && !isWhole {
			return false
		}
	}
	for i, b := range le.Put(v.N, width) {
		c := cell{b: b}
		if v.Ptr {
			c = cell{kind: ofPlace, val: v, from: to.N}
		}
		m.written[spot{to.Node, to.N + uint64(i)}] = c
	}
	return true
}

// code tells the bytes from a place on, as many as an instruction may have, up to its node's end, or to a place that was written.
func (m memory) code(v Val) []byte {
	const longest = 10
	n := m.node(v.Node)
	var b []byte
	for at := v.N; at < uint64(n.Size) && len(b) < longest; at++ {
		// What stands where an edge is counts by the edge alone.
		c := cell{b: byteOf(n, at)}
		if len(edgesIn(n, at, at+1)) == 0 {
			c = m.cell(spot{v.Node, at})
		}
		if c.kind != ofNumber {
			break
		}
		b = append(b, c.b)
	}
	return b
}
