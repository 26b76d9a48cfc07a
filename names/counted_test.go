package names_test

import (
	"slices"
	"testing"

	"fishplate/api"
	"fishplate/names"
	"fishplate/obj"
)

// symsOf tells a symbol of a name in each way in which it may be.
func symsOf(name string) []api.Sym {
	return []api.Sym{
		local(name, -1, 1), local(name, text, 2),
		asked(name), global(name, -1, 3), global(name, text, 4),
		hoped(name), weak(name, -1, 5), weak(name, text, 6), weak(name, data, 7),
	}
}

// small tells all objects of one symbol, or of two if so many are wished, of some names, with each group or none of them.
func small(many int, all ...string) []api.Obj {
	var syms []api.Sym
	for _, name := range all {
		syms = append(syms, symsOf(name)...)
	}
	var l []api.Obj
	for _, a := range syms {
		o := object(a)
		l = append(l, o, grouped(o, 1, text))
		if many < 2 {
			continue
		}
		for _, b := range syms {
			if o := object(a, b); a.Bind != api.Local && b.Bind == api.Local || !obj.May(o) {
				continue
			} else {
				l = append(l, o, grouped(o, 1, text), grouped(o, 2, text), grouped(grouped(o, 1, data), 2, text))
			}
		}
	}
	return l
}

// P10.1, P10.2: all lists of two objects of up to two symbols of one name.
func TestAllListsOfTwo(t *testing.T) {
	t.Parallel()
	l := small(2, "x")
	for _, a := range l {
		hold(t, []api.Obj{a})
		for _, b := range l {
			hold(t, []api.Obj{a, b})
		}
	}
}

// P10.1, P10.2: all lists of three objects of one symbol, of two names.
func TestAllListsOfThree(t *testing.T) {
	t.Parallel()
	l := small(1, "x", "xy")
	for _, a := range l {
		for _, b := range l {
			for _, c := range l {
				hold(t, []api.Obj{a, b, c})
			}
		}
	}
}

// counter counts on, by a fixed rule, and tells numbers below another one by where it is.
type counter uint64

func (c *counter) next(below int) int {
	*c = *c*6364136223846793005 + 1442695040888963407
	return int(*c>>33) % below
}

// sym tells a symbol by where the counter is.
func (c *counter) sym() api.Sym {
	all := symsOf([]string{"x", "y", "xy", "\xff"}[c.next(4)])
	y := all[c.next(len(all))]
	if y.Bind == api.Global && y.Sec != 0 && c.next(3) > 0 {
		y.Bind = api.Weak
	}
	if y.Bind == api.Local && c.next(4) == 0 {
		y.Name = ""
	}
	if y.Sec > 0 {
		y.Sec = 1 + c.next(3)
	}
	return y
}

// object tells an object by where the counter is: of up to six symbols, and groups of its sections.
func (c *counter) object() api.Obj {
	var syms []api.Sym
	for range c.next(7) {
		syms = append(syms, c.sym())
	}
	slices.SortStableFunc(syms, func(a, b api.Sym) int { return min(a.Bind, 1) - min(b.Bind, 1) })
	o := object(syms...)
	if len(syms) == 0 {
		return o
	}
	switch sym := 1 + c.next(len(syms)); c.next(6) {
	case 0:
		return grouped(o, sym, 1+c.next(3))
	case 1:
		return grouped(o, sym, text, zeros)
	case 2:
		return grouped(grouped(o, sym, data), 1+c.next(len(syms)), text, zeros)
	case 3:
		return grouped(grouped(grouped(o, sym, zeros), sym, data), 1+c.next(len(syms)), text)
	}
	return o
}

// counted tells lists of up to nine objects, by a fixed way of counting.
func counted(many int) [][]api.Obj {
	var c counter
	var all [][]api.Obj
	for i := range many {
		var l []api.Obj
		for range i%9 + i%100/99 {
			l = append(l, c.object())
		}
		all = append(all, l)
	}
	return all
}

// P10.1, P10.2: many lists of objects, of which each kind of answer is told often.
func TestCountedLists(t *testing.T) {
	t.Parallel()
	told := map[api.Code]int{}
	for _, l := range counted(12000) {
		told[plain(l).err()]++
		hold(t, l)
	}
	for _, code := range []api.Code{0, api.ErrArg, api.ErrDup, api.ErrUndef} {
		if told[code] < 10 {
			t.Errorf("%v is told %d times", code, told[code])
		}
	}
}

// mustDefineTheirNames holds that each definition of a table defines its name, as told by the chapter.
func mustDefineTheirNames(t *testing.T, l plain, table names.Table) {
	t.Helper()
	for i, d := range table.Defs {
		if !l.defines(d.Obj, d.Sym) || l[d.Obj].Syms[d.Sym].Name != d.Name {
			t.Fatalf("%+v doesn't define its name in %+v", d, l)
		}
		if i > 0 && table.Defs[i-1].Name >= d.Name {
			t.Fatalf("%+v don't rise", table.Defs)
		}
	}
}

// P10.4: each definition defines its name.
func TestDefinitionsDefineTheirNames(t *testing.T) {
	for _, l := range append(counted(5000), lists()...) {
		if table, err := names.Resolve(l); err == nil {
			mustDefineTheirNames(t, l, table)
		}
	}
}

// weakOnly tells objects that define only Weak names, if any.
func weakOnly() []api.Obj {
	l := []api.Obj{{Syms: []api.Sym{{}}}, object(), object(weak("x", text, 1), weak("y", -1, 2), weak("xy", data, 3), weak("\xff", zeros, 4), weak("z", text, 5))}
	for _, o := range small(2, "x", "y") {
		if !slices.ContainsFunc(o.Syms, func(y api.Sym) bool { return y.Bind == api.Global }) {
			l = append(l, o)
		}
	}
	return l
}

// P10.4: behind the last object one that defines only Weak names changes no Global definition, and drops nothing ahead of it.
func TestOneMoreObjectOfWeakNames(t *testing.T) {
	t.Parallel()
	more, tables := weakOnly(), 0
	for i, l := range append(counted(3000), lists()...) {
		table, err := names.Resolve(l)
		if err != nil || len(l) == 8 {
			continue
		}
		tables++
		for n := range 12 {
			longer := append(slices.Clone(l), more[(i*12+n)%len(more)])
			next, err := names.Resolve(longer)
			if err != nil || !slices.EqualFunc(next.Dropped[:len(l)], table.Dropped, slices.Equal) {
				t.Fatalf("behind %+v: %+v, %v; want %+v", longer, next, err, table)
			}
			for _, d := range table.Defs {
				if got, ok := names.Find(next, d.Name); got != d || !ok {
					t.Fatalf("%+v became %+v, %v in %+v", d, got, ok, longer)
				}
			}
		}
	}
	if tables < 300 {
		t.Errorf("%d tables alone", tables)
	}
}

// P10.4: a name of two groups is defined in the first one alone: each object has it in its group, as Global or as Weak.
func TestANameOfTwoGroups(t *testing.T) {
	var ways []api.Obj
	for _, sec := range []int{text, data, zeros} {
		for _, y := range []api.Sym{global("g", sec, 1), weak("g", sec, 2)} {
			ways = append(ways, grouped(object(y), 1, sec), grouped(object(local("g", -1, 0), y), 1, sec), grouped(object(local("l", -1, 0), y, weak("other", sec, 0)), 2, sec))
		}
	}
	for _, a := range ways {
		first := slices.IndexFunc(a.Syms, func(y api.Sym) bool { return y.Name == "g" && y.Bind != api.Local })
		for _, b := range ways {
			for _, l := range [][]api.Obj{{a, b}, {a, b, b}, {a, b, object(hoped("g"), asked("g")), b, a}} {
				table := mustResolve(t, l)
				mustFind(t, table, "g", def("g", 0, first), true)
				mustDefineTheirNames(t, l, table)
				for o := range l {
					for s, y := range l[o].Syms {
						if y.Name == "g" && y.Bind != api.Local {
							mustBe(t, l, table, o, s, at(0, a.Syms[first].Sec, a.Syms[first].Value))
						}
					}
				}
			}
		}
	}
}
