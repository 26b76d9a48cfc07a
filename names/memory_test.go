package names_test

import (
	"math"
	"reflect"
	"slices"
	"strings"
	"testing"

	"fishplate/api"
	"fishplate/names"
)

// cloned tells a list in new memory that has room for one more; that one is filled, if it is to be seen whether it gets written.
func cloned[T any](l []T, more T) []T {
	if l == nil {
		return nil
	}
	return append(append(make([]T, 0, len(l)+1), l...), more)[:len(l)]
}

// copied tells objects of which nothing is shared with others.
func copied(l []api.Obj) []api.Obj {
	l = cloned(l, api.Obj{Secs: []api.Sec{{Name: "more"}}})
	for o := range l {
		l[o].Secs = cloned(l[o].Secs, api.Sec{Name: "more"})
		l[o].Syms = cloned(l[o].Syms, global("more", -1, 7))
		l[o].Groups = cloned(l[o].Groups, api.Group{Sym: 7})
		l[o].Sig = cloned(l[o].Sig, 7)
		for i := range l[o].Secs {
			l[o].Secs[i].Data = cloned(l[o].Secs[i].Data, 7)
			l[o].Secs[i].Rels = cloned(l[o].Secs[i].Rels, api.Rel{Off: 7})
		}
		for i := range l[o].Groups {
			l[o].Groups[i].Members = cloned(l[o].Groups[i].Members, 7)
		}
	}
	return l
}

// whole tells all that lists of objects have, also what stands behind their ends.
func whole(l []api.Obj) []any {
	var all []any
	for _, o := range l[:cap(l)] {
		all = append(all, o.Secs[:cap(o.Secs)], o.Syms[:cap(o.Syms)], o.Groups[:cap(o.Groups)], o.Sig[:cap(o.Sig)], o.HasSig)
		for _, s := range o.Secs {
			all = append(all, s.Data[:cap(s.Data)], s.Rels[:cap(s.Rels)])
		}
		for _, g := range o.Groups {
			all = append(all, g.Members[:cap(g.Members)])
		}
	}
	return all
}

// rich tells objects with relocations, groups and Sig beside all else.
func rich() []api.Obj {
	l := append(ordinary(), grouped(object(local("inline", text, 0), weak("late", data, 2)), 1, data, zeros))
	l[0].HasSig, l[0].Sig = true, []int{2, 1, 2}
	l[1].Secs[0].Rels = []api.Rel{{Off: 1, Type: api.RPC32, Sym: 2, Add: -4}, {Off: 6, Type: api.R32, Sym: 1}}
	return l
}

// lists are lists of objects, with a table and with each error.
func lists() [][]api.Obj {
	return [][]api.Obj{
		rich(), ordinary(), {object()}, {},
		append(rich(), api.Obj{Syms: []api.Sym{weak("first", -1, 0)}}),
		append(rich(), object(global("limit", text, 0))),
		append(rich(), object(asked("nowhere"))),
	}
}

// P10.3, R2: nothing that is handed in is changed.
func TestNothingHandedInIsChanged(t *testing.T) {
	for _, like := range lists() {
		l, kept := copied(like), copied(like)
		table, _ := names.Resolve(l)
		if !reflect.DeepEqual(whole(l), whole(kept)) {
			t.Errorf("Resolve changed %+v to %+v", kept, l)
		}
		other, _ := names.Resolve(kept)
		for o := -1; o <= len(l); o++ {
			for s := -1; s < 9; s++ {
				names.Where(l, table, o, s)
			}
		}
		for _, name := range []string{"", "a", "inline", "main", "zz"} {
			names.Find(table, name)
		}
		if !reflect.DeepEqual(whole(l), whole(kept)) || !reflect.DeepEqual(table, other) {
			t.Errorf("Where or Find changed %+v to %+v, or %+v to %+v", kept, l, other, table)
		}
	}
}

// P10.3: a table stands by itself: neither are changed objects seen in it, nor a changed table in others.
func TestTablesAreNewMemory(t *testing.T) {
	l := copied(rich())
	first, _ := names.Resolve(l)
	second, _ := names.Resolve(l)
	want := plain(rich()).table()
	for i := range first.Dropped {
		for n := range first.Dropped[i] {
			first.Dropped[i][n] = !first.Dropped[i][n]
		}
	}
	for i := range first.Defs {
		first.Defs[i] = def("changed", 9, 9)
	}
	first.Dropped[0], first.Dropped[1] = nil, []bool{true}
	if !same(second, want) {
		t.Errorf("%+v was changed by another table; want %+v", second, want)
	}
	holdFind(t, l, second)
	holdWhere(t, l, second)
	if third, err := names.Resolve(l); err != nil || !same(third, want) {
		t.Errorf("a later table is %+v, %v; want %+v", third, err, want)
	}
	for o := range l {
		l[o].Groups = l[o].Groups[:0]
		clear(l[o].Secs)
		clear(l[o].Syms)
		l[o] = api.Obj{}
	}
	if !same(second, want) {
		t.Errorf("%+v was changed by its objects; want %+v", second, want)
	}
}

// P10.3: no two lists of a table share any memory, also not behind their ends.
func TestListsOfATableShareNothing(t *testing.T) {
	l := rich()
	table := mustResolve(t, l)
	for o := range table.Dropped {
		others := names.Table{Dropped: slices.Clone(table.Dropped), Defs: table.Defs}
		own := table.Dropped[o]
		more := append(own[:len(own):cap(own)], slices.Repeat([]bool{true}, 9)...)
		for n := range own[:cap(own)] {
			own[:cap(own)][n] = true
		}
		want := plain(l).table()
		want.Dropped[o] = slices.Repeat([]bool{true}, len(own))
		if !same(others, want) || len(more) != len(own)+9 {
			t.Errorf("list %d shares: %+v; want %+v", o, others, want)
		}
		table = mustResolve(t, l)
	}
}

// P10.1, P10.2: whoever asks again is told the same.
func TestAskedAgain(t *testing.T) {
	for _, l := range lists() {
		hold(t, l)
		first, firstErr := names.Resolve(l)
		for range 50 {
			if got, err := names.Resolve(l); !reflect.DeepEqual(got, first) || err != firstErr {
				t.Fatalf("Resolve(%+v) = %+v, %v; then %+v, %v", l, first, firstErr, got, err)
			}
		}
	}
}

// P1: Where ends, and tells no place beside an error, also with a table of other objects, and of objects that may not be.
func TestWhereWithTablesOfOthers(t *testing.T) {
	far := []int{math.MinInt, -2, -1, 0, 1, 2, 3, 4, 5, 100, math.MaxInt}
	tables := []names.Table{{}, {Dropped: [][]bool{nil, {true}}}, {Dropped: [][]bool{{}, {}, {true, true, true, true, true}}}, {Dropped: make([][]bool, 20)}}
	for _, o := range far {
		for _, s := range far {
			tables = append(tables, names.Table{Defs: []names.Def{def("main", o, s)}}, names.Table{Defs: []names.Def{def("x", o, s), def("main", s, o), def("", o, s)}})
		}
	}
	objects := []api.Obj{{}, object(api.Sym{Name: "main", Bind: 7, Sec: 9}, api.Sym{Name: "x", Bind: math.MinInt, Sec: math.MaxInt})}
	for _, sec := range []int{math.MinInt, -2, 4, 5, 1000, math.MaxInt} {
		objects = append(objects, object(local("main", sec, -1), global("main", sec, 1), weak("x", sec, math.MaxInt)))
	}
	objects = append(objects, api.Obj{Secs: make([]api.Sec, 100), Syms: []api.Sym{local("first", 3, 9), global("", 1, 1), weak("", 0, 0)}})
	for _, l := range [][]api.Obj{objects, append(rich(), objects...), rich(), nil} {
		for _, table := range tables {
			for o := -1; o <= len(l); o++ {
				for s := -1; s < 8; s++ {
					if got, err := names.Where(l, table, o, s); err != nil && got != (names.Place{}) {
						t.Fatalf("Where(%+v, %+v, %d, %d) = %+v beside %v", l, table, o, s, got, err)
					}
				}
			}
		}
	}
}

// P1: Resolve ends, and tells ErrArg, of objects that may not be at all.
func TestResolveOfObjectsThatMayNotBe(t *testing.T) {
	far := []int{math.MinInt, -2, -1, 4, 5, 127, 128, 1 << 31, math.MaxInt}
	for _, n := range far {
		bad := []api.Obj{
			{Syms: []api.Sym{{}, global("f", text, 0)}, Groups: []api.Group{{Sym: n, Members: []int{1}}}},
			{Secs: object().Secs, Syms: []api.Sym{{}, global("f", text, 0)}, Groups: []api.Group{{Sym: 1, Members: []int{n}}}},
			{Secs: object().Secs, Syms: []api.Sym{{}}, Groups: []api.Group{{Sym: n, Members: []int{n}}}},
			object(global("f", n, n)),
			{Groups: []api.Group{{Sym: n}}}, {HasSig: true, Sig: []int{n}},
			object(global(strings.Repeat("n", 1<<20), text, 0)),
		}
		for _, o := range bad {
			mustFail(t, api.ErrArg, o)
			mustFail(t, api.ErrArg, rich()[0], o, o)
			mustFail(t, api.ErrArg, object(asked("u")), o)
		}
	}
}
