package graph_test

import (
	"slices"
	"testing"

	"fishplate/api"
	"fishplate/obj"
)

// counter counts on, by a fixed rule, and tells numbers below another one by where it is.
type counter uint64

func (c *counter) next(below int) int {
	*c = *c*6364136223846793005 + 1442695040888963407
	return int(*c>>33) % below
}

// text tells so many bytes out of some.
func (c *counter) text(many int, some string) string {
	b := make([]byte, many)
	for i := range b {
		b[i] = some[c.next(len(some))]
	}
	return string(b)
}

// sec tells a section by where the counter is.
func (c *counter) sec() api.Sec {
	var s api.Sec
	switch c.next(8) {
	case 0:
		s = zeros(c.next(9))
	case 1, 2:
		s = texts(c.text(c.next(9), "a\x00") + "\x00")
	case 3:
		ent := 4 << c.next(2)
		s = entries(ent, c.text(ent*(1+c.next(3)), "0123"))
	case 4:
		s = []api.Sec{texts(""), entries(4, ""), code(""), comment("c")}[c.next(4)]
	case 5:
		s = filled(".data", api.Alloc|api.Write, 8, c.text(c.next(9), "0123"))
	default:
		s = code(c.text(c.next(40), "abc"))
	}
	if c.next(12) == 0 {
		s.Flags &^= api.Alloc
	}
	if c.next(9) == 0 {
		s.Flags |= api.Retain
	}
	return s
}

// sym tells a symbol by where the counter is, of an object with some sections.
func (c *counter) sym(l []api.Sec) api.Sym {
	y := api.Sym{Name: c.text(1, "abcdef"), Bind: []int{api.Local, api.Local, api.Weak, api.Weak, api.Weak, api.Global}[c.next(6)]}
	switch where := c.next(12); {
	case where < 2:
		y.Sec, y.Value = -1, c.next(9)
	case where < 4 && y.Bind == api.Weak || len(l) == 0:
		if y.Bind == api.Local {
			y.Sec = -1
		}
	default:
		y.Sec = 1 + c.next(len(l))
		y.Value = c.next(l[y.Sec-1].Size + 1)
	}
	if y.Bind == api.Global && y.Sec != 0 && c.next(2) == 0 {
		y.Sec, y.Value = 0, 0
	}
	return y
}

// rels tells the relocations of a section of so many bytes, of an object with so many symbols.
func (c *counter) rels(size, syms int) []api.Rel {
	var l []api.Rel
	for off := c.next(5); off+8 <= size && c.next(5) > 0; off += 8 + c.next(4) {
		l = append(l, api.Rel{Off: off, Type: []int{api.R64, api.RPC32, api.RPLT32, api.R32, api.R32S}[c.next(5)], Sym: c.next(syms), Add: c.next(9) - 4})
	}
	return l
}

// object tells an object by where the counter is.
func (c *counter) object() api.Obj {
	var l []api.Sec
	for range c.next(5) {
		l = append(l, c.sec())
	}
	var syms []api.Sym
	for range c.next(8) {
		syms = append(syms, c.sym(l))
	}
	slices.SortStableFunc(syms, func(a, b api.Sym) int { return min(a.Bind, 1) - min(b.Bind, 1) })
	o := object(l, syms...)
	for i, s := range o.Secs {
		if s.Type == api.ProgBits && s.Flags&api.Merge == 0 {
			o.Secs[i].Rels = c.rels(s.Size, len(o.Syms))
		}
		if link := 1 + c.next(len(l)); link != i+1 && c.next(4) == 0 {
			o.Secs[i] = ordered(s, link)
			o.Secs[i].Rels = nil
		}
	}
	for i := range o.Secs {
		if len(syms) > 0 && c.next(5) == 0 {
			o = grouped(o, 1+c.next(len(syms)), i+1)
		}
	}
	if c.next(3) == 0 {
		o.HasSig = true
		for range c.next(4) {
			o.Sig = append(o.Sig, c.next(len(o.Syms)))
		}
	}
	return o
}

// met counts what graphs have, so that it is to be seen that each thing is met often.
type met map[string]int

// note counts what a graph has.
func (m met) note(l []api.Obj, g api.Graph) {
	m["graphs"]++
	for _, n := range g.Nodes {
		m.noteIf("a unique node of an object with Sig", n.Unique && l[n.Obj].HasSig)
		m.noteIf("a node that isn't Unique, without Merge", !n.Unique && n.Flags&api.Merge == 0)
		m.noteIf("a node of a group", n.Group > 1)
		m.noteIf("a node of Order", n.Link > 0)
		m.noteIf("a piece behind another one", n.Pos > 0)
		for _, e := range n.Edges {
			m.noteIf("an edge to a number", e.To == -1 && e.At > 0)
			m.noteIf("an edge to 0", e.To == -1 && e.At == 0)
			m.noteIf("an edge into a piece", e.To >= 0 && g.Nodes[e.To].Pos > 0)
			m.noteIf("an edge to another object", e.To >= 0 && g.Nodes[e.To].Obj != n.Obj)
			m.noteIf("an edge to an end", e.To >= 0 && e.At > 0 && e.At == g.Nodes[e.To].Size)
		}
	}
}

// noteIf counts a thing.
func (m met) noteIf(what string, is bool) {
	if is {
		m[what]++
	} else {
		m[what] += 0
	}
}

// P12.1, P12.3: many lists of small objects, each with each entry that it may have, and some that it may not.
func TestCountedLists(t *testing.T) {
	t.Parallel()
	var c counter
	m, told := met{}, map[api.Code]int{}
	for i := range 12000 {
		var l []api.Obj
		for range i%5 + i%400/399*5 {
			l = append(l, c.object())
		}
		mustBeObjects(t, l...)
		entries := "abcdef"
		if i%20 > 0 {
			entries = c.text(1, entries)
		}
		for _, entry := range entries {
			_, code := plain(l).graph(string(entry))
			told[code]++
			if g := hold(t, l, string(entry)); code == 0 {
				m.note(l, g)
			}
		}
	}
	for _, code := range []api.Code{0, api.ErrArg, api.ErrDup, api.ErrUndef, api.ErrReloc, api.ErrEntry} {
		if told[code] < 20 {
			t.Errorf("%v is told %d times: %v", code, told[code], told)
		}
	}
	if len(m) != 11 {
		t.Errorf("counted are %v", m)
	}
	for what, many := range m {
		if many < 100 {
			t.Errorf("%s is met %d times", what, many)
		}
	}
}

// kinds tells a section of each kind.
func kinds() []api.Sec {
	unlaid := texts("a\x00")
	unlaid.Flags &^= api.Alloc
	return []api.Sec{
		code("abcdefgh"), code(""), filled(".data", api.Alloc|api.Write, 8, "01234567"), filled(".ro", api.Alloc, 1, "\x00\x00"), comment("ab"), zeros(3), zeros(0),
		texts(""), texts("\x00"), texts("a\x00"), texts("\x00\x00"), texts("a\x00b\x00"), unlaid, entries(4, ""), entries(4, "0123"), entries(4, "01234567"), entries(8, "0123456701234567"),
	}
}

// ways tells all objects of one symbol x, at each place of a section, beside an object's own ways to be.
func ways(s api.Sec) []api.Obj {
	var l []api.Obj
	for at := range s.Size + 1 {
		for _, y := range []api.Sym{local("x", 1, at), weak("x", 1, at), global("x", 1, at)} {
			o := object(secs(s, code("", pc(0, 1, 1))), y)
			l = append(l, o, signed(o), signed(o, 1), grouped(o, 1, 1), grouped(o, 1, 2), signed(grouped(o, 1, 1, 2), 1))
		}
	}
	return l
}

// P12.1, P12.3: all sections of some kinds, each place of them, ahead of and behind an object that asks for it, defines it, or has its group.
func TestEachPlaceOfEachKind(t *testing.T) {
	t.Parallel()
	others := []api.Obj{
		object(nil), object(secs(code("", pc(0, 1, 0))), asked("x")), signed(object(secs(code("", pc(0, 1, 0))), hoped("x")), 1),
		object(nil, global("x", -1, 3)), object(secs(zeros(2)), weak("x", 1, 2)), signed(object(secs(zeros(2), code("", pc(0, 1, 0))), global("x", 1, 1))),
		grouped(object(secs(code("g")), local("x", -1, 0)), 1, 1), grouped(object(secs(code("g"), code("", pc(0, 2, 0))), local("x", 1, 0), weak("x", 1, 1)), 1, 1),
	}
	many := 0
	for _, s := range kinds() {
		for _, o := range ways(s) {
			if !obj.May(o) {
				t.Fatalf("%+v may not be", o)
			}
			hold(t, list(o), "x")
			for _, other := range others {
				for _, l := range [][]api.Obj{{o, other}, {other, o}} {
					hold(t, l, "x")
					if g := hold(t, append(l, fine()), "main"); len(g.Nodes) > 0 {
						many++
					}
				}
			}
		}
	}
	if many < 1000 {
		t.Errorf("%d graphs alone", many)
	}
}
