package block_test

import (
	"errors"
	"reflect"
	"slices"
	"testing"

	"fishplate/api"
	"fishplate/block"
	"fishplate/insn"
)

// Registers.
const (
	rax = iota
	rcx
	rdx
	rbx
	rsp
	rbp
	rsi
	rdi
)

// most is the greatest number.
const most = 1<<64 - 1

// figure tells a number's bytes.
func figure(v, width int) []byte {
	b := make([]byte, width)
	for i := range b {
		b[i] = byte(v >> (8 * i))
	}
	return b
}

// in tells the bytes of an instruction.
func in(op, r, m, imm int) []byte {
	both := byte(8*r + m)
	four := figure(imm, 4)
	switch op {
	case 1:
		return append([]byte{72, 199, 192 + byte(m)}, four...)
	case 2:
		return append([]byte{72, 184 + byte(m)}, figure(imm, 8)...)
	case 3:
		return append([]byte{72, 141, 5 + 8*byte(r)}, four...)
	case 4:
		return append([]byte{72, 139, 128 + both}, four...)
	case 5:
		return append([]byte{72, 137, 128 + both}, four...)
	case 6:
		return append([]byte{72, 15, 182, 128 + both}, four...)
	case 7:
		return append([]byte{72, 136, 128 + both}, four...)
	case 8:
		return []byte{72, 137, 192 + both}
	case 9:
		return []byte{72, 1, 192 + both}
	case 10:
		return []byte{72, 41, 192 + both}
	case 11:
		return append([]byte{72, 129, 192 + byte(m)}, four...)
	case 12:
		return []byte{72, 57, 192 + both}
	case 13:
		return append([]byte{233}, four...)
	case 14, 15, 16:
		return append([]byte{15, []byte{132, 133, 130}[op-14]}, four...)
	case 17:
		return append([]byte{232}, four...)
	case 18:
		return []byte{255, 208 + byte(m)}
	case 19:
		return []byte{195}
	}
	return []byte{15, 5}
}

// fieldOf tells where an instruction's field begins.
func fieldOf(op int) int {
	return [21]int{1: 3, 2, 3, 3, 3, 4, 3, 11: 3, 13: 1, 2, 2, 2, 1}[op]
}

// fits tells the types of edges that may be in an instruction.
func fits(op int) []int {
	switch op {
	case 1, 4, 5, 6, 7, 11:
		return []int{api.R32S}
	case 2:
		return []int{api.R64}
	case 3, 13, 14, 15, 16, 17:
		return []int{api.RPC32, api.RPLT32}
	}
	return nil
}

// num and at tell a value: a number, and a place; of the stack of node -1.
func num(n uint64) block.Val { return block.Val{N: n} }
func at(node int, n uint64) block.Val {
	return block.Val{Ptr: true, Node: node, N: n}
}

// edge tells an edge.
func edge(off, kind, to, at, add int) api.Edge {
	return api.Edge{Off: off, Type: kind, To: to, At: at, Add: add}
}

// filled tells a node of bytes and edges.
func filled(flags int, b []byte, edges ...api.Edge) api.Node {
	return api.Node{Type: api.ProgBits, Flags: api.Alloc | flags, Align: 1, Size: len(b), Data: b, Edges: edges}
}

// These tell nodes: of code, of what may be written, and may not, and of NoBits.
func code(b []byte, edges ...api.Edge) api.Node  { return filled(api.Exec, b, edges...) }
func data(b []byte, edges ...api.Edge) api.Node  { return filled(api.Write, b, edges...) }
func fixed(b []byte, edges ...api.Edge) api.Node { return filled(0, b, edges...) }
func zeros(size int) api.Node {
	return api.Node{Type: api.NoBits, Flags: api.Alloc | api.Write, Align: 1, Size: size}
}

// unique tells a node of which the address counts.
func unique(n api.Node) api.Node {
	n.Unique = true
	return n
}

// graph tells a graph of nodes, its entry in the first one.
func graph(nodes ...api.Node) api.Graph { return api.Graph{Nodes: nodes} }

// author writes instructions, and the edges that are in them.
type author struct {
	b     []byte
	edges []api.Edge
}

// do writes an instruction.
func (a *author) do(op, r, m, imm int) *author {
	a.b = append(a.b, in(op, r, m, imm)...)
	return a
}

// by writes an instruction with an edge in its field.
func (a *author) by(op, r, m, kind, to, at, add int) *author {
	a.edges = append(a.edges, edge(len(a.b)+fieldOf(op), kind, to, at, add))
	return a.do(op, r, m, 0)
}

// put writes what lays a number into a register; lea what lays a place into it: of a node, or (-1) of the stack, by what rsp is at first.
func (a *author) put(m int, v uint64) *author { return a.do(2, 0, m, int(v)) }
func (a *author) lea(m, node int, n uint64) *author {
	if node == -1 {
		return a.do(8, rsp, m, 0).do(11, 0, m, int(n)-256)
	}
	return a.by(2, 0, m, api.R64, node, 0, int(n))
}

// steps tells how many steps lea takes.
func steps(node int) int {
	if node == -1 {
		return 2
	}
	return 1
}

// let writes what lays a value into a register.
func (a *author) let(m int, v block.Val) *author {
	if v.Ptr {
		return a.lea(m, v.Node, v.N)
	}
	return a.put(m, v.N)
}

// node tells the node of all that was written.
func (a *author) node() api.Node { return code(a.b, a.edges...) }

// write begins to write.
func write() *author { return &author{} }

// entry is what was written somewhere: the last one at a byte counts; at first edges are.
type entry struct {
	node, width int
	at          uint64
	val         block.Val
	shut        bool
}

// machine is the chapter's, read by its words.
type machine struct {
	s     block.State
	g     api.Graph
	wrote []entry
	tape  []byte
	held  []block.Val // nothing, or M and R
}

// plainMachine tells the machine at first.
func plainMachine(g api.Graph, tape []byte) *machine {
	m := &machine{g: g, tape: tape}
	for i, n := range g.Nodes {
		for _, e := range n.Edges {
			x := entry{node: i, width: 4, at: uint64(e.Off), shut: true}
			if e.Type == api.R64 {
				x.width, x.shut, x.val = 8, false, byEdge(e)
			}
			m.wrote = append(m.wrote, x)
		}
	}
	m.s.Ip, m.s.Regs[rsp] = at(g.To, uint64(g.At)), at(-1, 256)
	return m
}

// byEdge tells the value of a field by an edge, or what stands where it is.
func byEdge(e api.Edge) block.Val {
	n := uint64(e.At + e.Add)
	switch e.Type {
	case api.RPC32, api.RPLT32:
		n += 4
	}
	if e.To == -1 {
		return num(n)
	}
	return at(e.To, n)
}

// size tells how many bytes a node has, or the stack, and whether it is written.
func (m *machine) size(node int) (size uint64, written bool) {
	if node == -1 {
		return 256, true
	}
	n := m.g.Nodes[node]
	return uint64(n.Size), n.Flags&api.Write != 0
}

// over tells what was written last where a byte is.
func (m *machine) over(node int, a uint64) (entry, bool) {
	for _, x := range slices.Backward(m.wrote) {
		if x.node == node && a >= x.at && a-x.at < uint64(x.width) {
			return x, true
		}
	}
	return entry{}, false
}

// get tells the number that stands at a byte, if it is of one.
func (m *machine) get(node int, a uint64) (byte, bool) {
	x, ok := m.over(node, a)
	switch {
	case ok && (x.shut || x.val.Ptr):
		return 0, false
	case ok:
		return byte(x.val.N >> (8 * (a - x.at))), true
	case node == -1 || a >= uint64(len(m.g.Nodes[node].Data)):
		return 0, true
	}
	return m.g.Nodes[node].Data[a], true
}

// lies tells whether so many bytes lie within a node.
func (m *machine) lies(v block.Val, width int) bool {
	if !v.Ptr {
		return false
	}
	size, _ := m.size(v.Node)
	return v.N <= size && size-v.N >= uint64(width)
}

// load reads.
func (m *machine) load(v block.Val, width int) (block.Val, bool) {
	if !m.lies(v, width) {
		return block.Val{}, false
	}
	if x, ok := m.over(v.Node, v.N); ok && x.val.Ptr && x.at == v.N && width == 8 {
		return x.val, true
	}
	n := uint64(0)
	for i := width - 1; i >= 0; i-- {
		b, ok := m.get(v.Node, v.N+uint64(i))
		if !ok {
			return block.Val{}, false
		}
		n = n*256 + uint64(b)
	}
	return num(n), true
}

// store writes.
func (m *machine) store(to, v block.Val, width int) bool {
	if !m.lies(to, width) || width == 1 && v.Ptr {
		return false
	}
	if _, written := m.size(to.Node); !written {
		return false
	}
	for i := range width {
		x, ok := m.over(to.Node, to.N+uint64(i))
		if ok && (x.shut || x.val.Ptr && (width == 1 || x.at != to.N)) {
			return false
		}
	}
	m.wrote = append(m.wrote, entry{node: to.Node, width: width, at: to.N, val: v})
	return true
}

// fetch tells the instruction at Ip, and its field's value.
func (m *machine) fetch() (x insn.Insn, field block.Val, ok bool) {
	ip := m.s.Ip
	if !ip.Ptr || ip.Node == -1 || m.g.Nodes[ip.Node].Flags&api.Exec == 0 || ip.N >= uint64(len(m.g.Nodes[ip.Node].Data)) {
		return x, field, false
	}
	n := m.g.Nodes[ip.Node]
	if x, ok = insn.Decode(n.Data[ip.N:]); !ok {
		return x, field, false
	}
	from, next := int(ip.N), int(ip.N)+x.Len
	field = num(uint64(x.Imm))
	if x.Op == 3 || x.Op >= 13 && x.Op <= 17 {
		field = at(ip.Node, uint64(next+x.Imm))
	}
	met := 0
	for _, e := range n.Edges {
		width := 4
		if e.Type == api.R64 {
			width = 8
		}
		if e.Off >= next || e.Off+width <= from {
			continue
		}
		met++
		if met > 1 || e.Off != from+x.Field || !slices.Contains(fits(x.Op), e.Type) {
			return x, field, false
		}
		field = byEdge(e)
	}
	return x, field, true
}

// plus and less tell sums and differences.
func plus(a, b block.Val) (block.Val, bool) {
	if a.Ptr && b.Ptr {
		return block.Val{}, false
	}
	return block.Val{Ptr: a.Ptr || b.Ptr, Node: a.Node + b.Node, N: a.N + b.N}, true
}
func less(a, b block.Val) (block.Val, bool) {
	switch {
	case a.Ptr && b.Ptr && a.Node == b.Node:
		return num(a.N - b.N), true
	case !b.Ptr:
		return block.Val{Ptr: a.Ptr, Node: a.Node, N: a.N - b.N}, true
	}
	return block.Val{}, false
}

// ask tells whether a jump is done, if something comes of what it asks.
func (m *machine) ask(op int) (does, ok bool) {
	if len(m.held) == 0 {
		return false, false
	}
	a, b := m.held[0], m.held[1]
	if !a.Ptr && !b.Ptr {
		return map[int]bool{14: a.N == b.N, 15: a.N != b.N, 16: a.N < b.N}[op], true
	}
	if a.Ptr && b.Ptr && a.Node == b.Node {
		size, _ := m.size(a.Node)
		return map[int]bool{14: a.N == b.N, 15: a.N != b.N, 16: a.N < b.N}[op], op != 16 || a.N <= size && b.N <= size
	}
	if op == 16 {
		return false, false
	}
	if a.Ptr && b.Ptr {
		for _, v := range []block.Val{a, b} {
			size, _ := m.size(v.Node)
			if v.N >= size || v.Node != -1 && !m.g.Nodes[v.Node].Unique {
				return false, false
			}
		}
		return op == 15, true
	}
	if !a.Ptr {
		a, b = b, a
	}
	size, _ := m.size(a.Node)
	return op == 15, b.N == 0 && a.N <= size
}

// step does a step by the chapter's words; false: it is stuck.
func (m *machine) step() bool {
	x, field, ok := m.fetch()
	if !ok {
		return false
	}
	g := &m.s.Regs
	r, to := g[x.R], g[x.M]
	next := at(m.s.Ip.Node, m.s.Ip.N+uint64(x.Len))
	on, held := next, m.held
	var v block.Val
	switch x.Op {
	case 1, 2:
		g[x.M] = field
	case 3:
		g[x.R] = field
	case 4, 6:
		if v, ok = plus(to, field); ok {
			v, ok = m.load(v, map[int]int{4: 8, 6: 1}[x.Op])
		}
		if ok {
			g[x.R] = v
		}
	case 5, 7:
		if v, ok = plus(to, field); ok {
			ok = m.store(v, r, map[int]int{5: 8, 7: 1}[x.Op])
		}
	case 8:
		g[x.M] = r
	case 9, 10, 11:
		held = nil
		switch x.Op {
		case 9:
			v, ok = plus(to, r)
		case 10:
			v, ok = less(to, r)
		default:
			v, ok = plus(to, field)
		}
		if ok {
			g[x.M] = v
		}
	case 12:
		held = []block.Val{to, r}
	case 13:
		on = field
	case 14, 15, 16:
		var does bool
		if does, ok = m.ask(x.Op); does {
			on = field
		}
	case 17, 18:
		on = field
		if x.Op == 18 {
			on = to
		}
		v, _ = less(g[rsp], num(8))
		if ok = m.store(v, next, 8); ok {
			g[rsp] = v
		}
	case 19:
		if on, ok = m.load(g[rsp], 8); ok {
			g[rsp].N += 8
		}
	case 20:
		ok = m.system()
	}
	if ok {
		m.s.Ip, m.held = on, held
	}
	return ok
}

// system does a call of the system.
func (m *machine) system() bool {
	g := &m.s.Regs
	if g[rax].Ptr || g[rax].N != 0 && g[rdi].Ptr {
		return false
	}
	e := api.Event{Kind: int(g[rax].N), Val: g[rdi].N}
	switch g[rax].N {
	case 0:
		g[rax] = num(most)
		if len(m.tape) > 0 {
			g[rax] = num(uint64(m.tape[0]))
			m.tape = m.tape[1:]
		}
		e.Val = g[rax].N
	case 1:
	case 60:
		m.s.Status = 1
	default:
		return false
	}
	m.s.Events = append(m.s.Events, e)
	return true
}

// plain tells the state by the chapter's words, and Run's error; 0: there is none.
func plain(g api.Graph, tape []byte, n int) (block.State, api.Code) {
	if n < 0 || n > 1000 {
		return block.State{}, api.ErrArg
	}
	m := plainMachine(g, tape)
	for range n {
		if m.s.Status == 0 && !m.step() {
			m.s.Status = 2
		}
	}
	return m.s, 0
}

// same tells whether two states are one, be lists of no elements nil or not.
func same(a, b block.State) bool {
	events := slices.Equal(a.Events, b.Events)
	a.Events, b.Events = nil, nil
	return events && reflect.DeepEqual(a, b)
}

// isCode tells whether an error is a Code itself; 0: whether it is none.
func isCode(err error, c api.Code) bool {
	if c == 0 {
		return err == nil
	}
	return err == c && errors.Is(err, c)
}

// hold holds the state behind so many steps against the plain reading, and tells it.
func hold(t *testing.T, g api.Graph, tape []byte, n int) block.State {
	t.Helper()
	want, code := plain(g, tape, n)
	got, err := block.Run(g, tape, n)
	if !isCode(err, code) || !same(got, want) || code != 0 && !reflect.DeepEqual(got, block.State{}) {
		t.Fatalf("Run(%+v, %v, %d) = %+v, %v; want %+v, %v", g, tape, n, got, err, want, code)
	}
	return got
}

// want is what a state should be; registers that aren't named are as they are at first.
type want struct {
	ip     block.Val
	status int
	regs   map[int]block.Val
	events []api.Event
}

// mustRun holds the state behind so many steps against what it should be, also by hand.
func mustRun(t *testing.T, g api.Graph, tape []byte, n int, want want) {
	t.Helper()
	got := hold(t, g, tape, n)
	regs := [8]block.Val{rsp: at(-1, 256)}
	for r, v := range want.regs {
		regs[r] = v
	}
	if got.Ip != want.ip || got.Status != want.status || !slices.Equal(got.Events, want.events) || got.Regs != regs {
		t.Errorf("behind %d steps of %+v: %+v; want %+v, %v", n, g, got, want, regs)
	}
}

// mustBeStuck holds that the step behind so many is stuck, and changes nothing, with any more steps.
func mustBeStuck(t *testing.T, g api.Graph, n int) {
	t.Helper()
	want := hold(t, g, nil, n)
	if want.Status != 0 {
		t.Fatalf("behind %d steps of %+v it is %+v", n, g, want)
	}
	want.Status = 2
	for _, more := range []int{1, 2, 9} {
		if got := hold(t, g, nil, n+more); !same(got, want) {
			t.Errorf("behind %d steps of %+v: %+v; want %+v", n+more, g, got, want)
		}
	}
}

// counter counts on, by a fixed rule, and tells numbers below another one by where it is.
type counter uint64

func (c *counter) next(below int) int {
	*c = *c*6364136223846793005 + 1442695040888963407
	return int(*c>>33) % below
}
