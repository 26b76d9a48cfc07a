package names_test

import (
	"errors"
	"reflect"
	"slices"
	"testing"

	"fishplate/api"
	"fishplate/names"
	"fishplate/obj"
)

// text, data and zeros are the numbers of the sections that each object here has.
const (
	text  = 1
	data  = 2
	zeros = 3
)

// object tells an object of three sections, with symbols behind the zero one.
func object(syms ...api.Sym) api.Obj {
	return api.Obj{
		Secs: []api.Sec{
			{Name: ".text", Type: api.ProgBits, Flags: api.Alloc | api.Exec, Align: 16, Size: 12, Data: []byte("0123456789ab")},
			{Name: ".data", Type: api.ProgBits, Flags: api.Alloc | api.Write, Align: 8, Size: 8, Data: []byte("01234567")},
			{Name: ".bss", Type: api.NoBits, Flags: api.Alloc | api.Write, Align: 1, Size: 70000},
		},
		Syms: append([]api.Sym{{}}, syms...),
	}
}

// symbol tells a symbol; its Type and Size hang on nothing but its Value, so they tell nothing of its Bind.
func symbol(name string, bind, sec, value int) api.Sym {
	return api.Sym{Name: name, Bind: bind, Type: value % 4, Sec: sec, Value: value, Size: 1 + value%3}
}

// local, global and weak tell a symbol of a Bind, in a section, absolute (-1), or undefined (0).
func local(name string, sec, value int) api.Sym  { return symbol(name, api.Local, sec, value) }
func global(name string, sec, value int) api.Sym { return symbol(name, api.Global, sec, value) }
func weak(name string, sec, value int) api.Sym   { return symbol(name, api.Weak, sec, value) }

// asked and hoped tell a symbol that is undefined, a Global one and a Weak one.
func asked(name string) api.Sym { return global(name, 0, 0) }
func hoped(name string) api.Sym { return weak(name, 0, 0) }

// grouped tells an object with one more group, of a symbol.
func grouped(o api.Obj, sym int, members ...int) api.Obj {
	o.Secs, o.Groups = slices.Clone(o.Secs), slices.Clone(o.Groups)
	for _, n := range members {
		o.Secs[n-1].Flags |= api.Grouped
	}
	o.Groups = append(o.Groups, api.Group{Sym: sym, Members: members})
	return o
}

// def tells a definition.
func def(name string, o, s int) names.Def { return names.Def{Name: name, Obj: o, Sym: s} }

// at tells a place in a section; number tells a number.
func at(o, sec, at int) names.Place { return names.Place{Obj: o, Sec: sec, At: at} }
func number(n int) names.Place      { return names.Place{At: n} }

// plain is objects, read by the chapter's words, one after the other.
type plain []api.Obj

// name tells the name of a group of object o.
func (l plain) name(o int, g api.Group) string { return l[o].Syms[g.Sym].Name }

// droppedGroup tells whether group g of object o is dropped.
func (l plain) droppedGroup(o, g int) bool {
	own := l.name(o, l[o].Groups[g])
	for p := range l {
		for h, other := range l[p].Groups {
			ahead := p < o || p == o && h < g
			if ahead && l.name(p, other) == own {
				return true
			}
		}
	}
	return false
}

// droppedSec tells whether section n (from 1 on) of object o is dropped.
func (l plain) droppedSec(o, n int) bool {
	for g, group := range l[o].Groups {
		if slices.Contains(group.Members, n) && l.droppedGroup(o, g) {
			return true
		}
	}
	return false
}

// defines tells whether symbol s of object o defines its name.
func (l plain) defines(o, s int) bool {
	y := l[o].Syms[s]
	if y.Bind != api.Global && y.Bind != api.Weak {
		return false
	}
	if y.Sec == -1 {
		return true
	}
	return y.Sec != 0 && !l.droppedSec(o, y.Sec)
}

// defined tells all symbols of a Bind that define a name, in order.
func (l plain) defined(bind int, name string) []names.Def {
	var all []names.Def
	for o := range l {
		for s, y := range l[o].Syms {
			if y.Bind == bind && y.Name == name && l.defines(o, s) {
				all = append(all, def(name, o, s))
			}
		}
	}
	return all
}

// definition tells a name's definition.
func (l plain) definition(name string) (names.Def, bool) {
	for _, bind := range []int{api.Global, api.Weak} {
		if all := l.defined(bind, name); len(all) > 0 {
			return all[0], true
		}
	}
	return names.Def{}, false
}

// names tells the names of all symbols, rising, each once.
func (l plain) names() []string {
	var all []string
	for _, o := range l {
		for _, y := range o.Syms {
			all = append(all, y.Name)
		}
	}
	slices.Sort(all)
	return slices.Compact(all)
}

// err tells Resolve's error; 0: there is none.
func (l plain) err() api.Code {
	if len(l) > 8 {
		return api.ErrArg
	}
	for _, o := range l {
		if !obj.May(o) {
			return api.ErrArg
		}
	}
	for _, name := range l.names() {
		if len(l.defined(api.Global, name)) > 1 {
			return api.ErrDup
		}
	}
	for o := range l {
		for s, y := range l[o].Syms {
			if y.Bind != api.Global || l.defines(o, s) {
				continue
			}
			if _, ok := l.definition(y.Name); !ok {
				return api.ErrUndef
			}
		}
	}
	return 0
}

// table tells Resolve's table, of objects without an error.
func (l plain) table() names.Table {
	var t names.Table
	for o := range l {
		dropped := []bool{}
		for n := range l[o].Secs {
			dropped = append(dropped, l.droppedSec(o, n+1))
		}
		t.Dropped = append(t.Dropped, dropped)
	}
	for _, name := range l.names() {
		if d, ok := l.definition(name); ok {
			t.Defs = append(t.Defs, d)
		}
	}
	return t
}

// place tells where symbol s of object o is by itself.
func (l plain) place(o, s int) names.Place {
	y := l[o].Syms[s]
	if s == 0 {
		return number(0)
	}
	if y.Sec == -1 {
		return number(y.Value)
	}
	return at(o, y.Sec, y.Value)
}

// where tells where symbol s of object o is, and Where's error; 0: there is none.
func (l plain) where(o, s int) (names.Place, api.Code) {
	if o < 0 || o >= len(l) || s < 0 || s >= len(l[o].Syms) {
		return names.Place{}, api.ErrArg
	}
	y := l[o].Syms[s]
	if y.Bind == api.Local {
		if y.Sec > 0 && l.droppedSec(o, y.Sec) {
			return names.Place{}, api.ErrUndef
		}
		return l.place(o, s), 0
	}
	if d, ok := l.definition(y.Name); ok {
		return l.place(d.Obj, d.Sym), 0
	}
	if y.Bind == api.Weak {
		return number(0), 0
	}
	return names.Place{}, api.ErrUndef
}

// same tells whether two tables are one, be lists of no elements nil or not.
func same(a, b names.Table) bool {
	return slices.EqualFunc(a.Dropped, b.Dropped, slices.Equal) && slices.Equal(a.Defs, b.Defs)
}

// isCode tells whether an error is a Code itself; 0: whether it is none.
func isCode(err error, code api.Code) bool {
	if code == 0 {
		return err == nil
	}
	if err != code || !errors.Is(err, code) {
		return false
	}
	for other := api.ErrArg; other <= api.ErrLarge; other++ {
		if other != code && errors.Is(err, other) {
			return false
		}
	}
	return true
}

// mustFail holds Resolve to an error, with a zero table.
func mustFail(t *testing.T, code api.Code, l ...api.Obj) {
	t.Helper()
	for range 2 {
		if got, err := names.Resolve(l); !isCode(err, code) || !reflect.DeepEqual(got, names.Table{}) {
			t.Errorf("Resolve(%+v) = %+v, %v; want %v", l, got, err, code)
		}
	}
	if got := plain(l).err(); got != code {
		t.Errorf("the plain reading of %+v tells %v; want %v", l, got, code)
	}
}

// mustTell holds Resolve's definitions against what they should be, and all else against the plain reading.
func mustTell(t *testing.T, l []api.Obj, defs ...names.Def) names.Table {
	t.Helper()
	got := mustResolve(t, l)
	if !slices.Equal(got.Defs, defs) {
		t.Errorf("Resolve(%+v) tells %+v; want %+v", l, got.Defs, defs)
	}
	return got
}

// mustResolve tells the table of objects, which must have one.
func mustResolve(t *testing.T, l []api.Obj) names.Table {
	t.Helper()
	if code := plain(l).err(); code != 0 {
		t.Fatalf("the plain reading of %+v tells %v", l, code)
	}
	return hold(t, l)
}

// hold holds what is told of objects against the plain reading; it tells their table.
func hold(t *testing.T, l []api.Obj) names.Table {
	t.Helper()
	code := plain(l).err()
	got, err := names.Resolve(l)
	if !isCode(err, code) {
		t.Fatalf("Resolve(%+v): %v; want %v", l, err, code)
	}
	if code != 0 {
		if !reflect.DeepEqual(got, names.Table{}) {
			t.Fatalf("Resolve(%+v) = %+v beside %v", l, got, err)
		}
		return got
	}
	if want := plain(l).table(); !same(got, want) {
		t.Fatalf("Resolve(%+v) = %+v; want %+v", l, got, want)
	}
	holdFind(t, l, got)
	holdWhere(t, l, got)
	return got
}

// holdFind holds Find in the table of objects: of each name of theirs, and of names ahead of it and behind it.
func holdFind(t *testing.T, l plain, table names.Table) {
	t.Helper()
	for _, name := range append(l.names(), "", "\x01", "a", "m", "\xff") {
		near := []string{name, name + "\x00", name + "\x01", name + "\xff", name + name}
		if name != "" {
			near = append(near, name[1:], name[:len(name)-1])
		}
		for _, name := range near {
			want, ok := l.definition(name)
			if got, found := names.Find(table, name); got != want || found != ok {
				t.Fatalf("Find(%+v, %q) = %+v, %v; want %+v, %v", table, name, got, found, want, ok)
			}
		}
	}
}

// holdWhere holds Where of each symbol of objects, and of some that there aren't.
func holdWhere(t *testing.T, l plain, table names.Table) {
	t.Helper()
	for o := -1; o <= len(l); o++ {
		many := 1
		if o >= 0 && o < len(l) {
			many = len(l[o].Syms)
		}
		for s := -1; s <= many; s++ {
			want, code := l.where(o, s)
			if got, err := names.Where(l, table, o, s); got != want || !isCode(err, code) {
				t.Fatalf("Where(%+v, %+v, %d, %d) = %+v, %v; want %+v, %v", l, table, o, s, got, err, want, code)
			}
		}
	}
}
