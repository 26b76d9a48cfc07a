package names_test

import (
	"slices"
	"strings"
	"testing"

	"fishplate/api"
	"fishplate/names"
)

// P10.1: the document's own example.
func TestTheExample(t *testing.T) {
	mustTell(t, []api.Obj{object(weak("x", text, 0)), object(global("x", text, 0))}, def("x", 1, 1))
}

// ordinary tells three objects: functions, data, a group in two of them, and names that others define.
func ordinary() []api.Obj {
	a := object(local("here", data, 4), global("main", text, 0), asked("printf"), asked("inline"), hoped("hook"), weak("table", data, 0))
	b := grouped(object(local("here", text, 1), weak("inline", text, 2), global("table", data, 6), global("limit", -1, 300), asked("main")), 2, text, zeros)
	c := grouped(object(local("gone", text, 9), weak("inline", text, 4), global("printf", data, 8), hoped("limit"), hoped("inline")), 2, text)
	return []api.Obj{a, b, c}
}

// P10.1: ordinary objects, the table and Find by hand.
func TestOrdinaryObjects(t *testing.T) {
	l := ordinary()
	got := mustTell(t, l, def("inline", 1, 2), def("limit", 1, 4), def("main", 0, 2), def("printf", 2, 3), def("table", 1, 3))
	want := [][]bool{{false, false, false}, {false, false, false}, {true, false, false}}
	if !slices.EqualFunc(got.Dropped, want, slices.Equal) {
		t.Errorf("dropped are %v; want %v", got.Dropped, want)
	}
	if d, ok := names.Find(got, "table"); d != def("table", 1, 3) || !ok {
		t.Error(d, ok)
	}
	for _, name := range []string{"", "a", "here", "gone", "hook", "inlin", "inline2", "printg", "u", "\xff"} {
		if d, ok := names.Find(got, name); d != (names.Def{}) || ok {
			t.Error(name, d, ok)
		}
	}
}

// P10.1: no object, and objects of as little as may be.
func TestNothing(t *testing.T) {
	zero := api.Obj{Syms: []api.Sym{{}}}
	for _, l := range [][]api.Obj{nil, {}, {zero}, {zero, zero}, {object()}, {object(), zero, object()}} {
		got := mustTell(t, l)
		if len(got.Dropped) != len(l) {
			t.Errorf("%d lists of %d objects", len(got.Dropped), len(l))
		}
		for o := range l {
			if slices.Contains(got.Dropped[o], true) || len(got.Dropped[o]) != len(l[o].Secs) {
				t.Errorf("dropped are %v", got.Dropped[o])
			}
		}
	}
	mustFail(t, api.ErrArg, api.Obj{})
	mustFail(t, api.ErrArg, api.Obj{}, api.Obj{})
	mustFail(t, api.ErrArg, zero, api.Obj{})
}

// P10.1: at most 8 objects.
func TestHowManyObjects(t *testing.T) {
	for n := range 20 {
		l := slices.Repeat([]api.Obj{object(local("l", text, 0), weak("w", text, 0))}, n)
		if n > 8 {
			mustFail(t, api.ErrArg, l...)
			continue
		}
		if n > 0 {
			mustTell(t, l, def("w", 0, 2))
			l[n-1].Syms = []api.Sym{{}, global("w", text, 0)}
			mustTell(t, l, def("w", n-1, 1))
		}
	}
	mustFail(t, api.ErrArg, slices.Repeat([]api.Obj{{Syms: []api.Sym{{}}}}, 9)...)
	mustFail(t, api.ErrArg, slices.Repeat([]api.Obj{{}}, 9)...)
	mustFail(t, api.ErrArg, slices.Repeat([]api.Obj{object()}, 100000)...)
	// ErrArg is told ahead of the others.
	mustFail(t, api.ErrDup, slices.Repeat([]api.Obj{object(global("x", text, 0))}, 8)...)
	mustFail(t, api.ErrArg, slices.Repeat([]api.Obj{object(global("x", text, 0))}, 9)...)
	mustFail(t, api.ErrUndef, slices.Repeat([]api.Obj{object(asked("x"))}, 8)...)
	mustFail(t, api.ErrArg, slices.Repeat([]api.Obj{object(asked("x"))}, 9)...)
}

// wrongs tells objects that may not be, each for another reason.
func wrongs() []api.Obj {
	large := object(global("large", text, 0))
	large.Secs[1].Size, large.Secs[1].Data = 16384, make([]byte, 16384)
	flagged := object()
	flagged.Secs[2].Flags |= api.Grouped
	rels := object()
	rels.Secs[0].Rels = []api.Rel{{Type: api.R32, Sym: 1}}
	sig := object()
	sig.Sig = []int{0}
	return []api.Obj{
		{}, large, flagged, rels, sig,
		{Syms: []api.Sym{local("first", -1, 0)}},
		object(global("f", text, 0), local("l", text, 0)),
		object(global("f", 4, 0)), object(global("f", -2, 0)), object(local("l", 0, 0)), object(global("f", text, 13)),
		object(global("", text, 0)), object(weak("", data, 0)), object(global(strings.Repeat("n", 33), text, 0)), object(global("a\x00b", text, 0)),
		object(api.Sym{Name: "b", Bind: 3, Sec: text}), object(api.Sym{Name: "b", Bind: -1, Sec: text}),
		grouped(object(), 0, text), grouped(object(), 1, text), grouped(object(local("g", text, 0)), 1), grouped(grouped(object(local("g", text, 0)), 1, text), 1, text),
		object(slices.Repeat([]api.Sym{local("l", text, 0)}, 128)...),
		{Secs: slices.Repeat(object().Secs, 11), Syms: []api.Sym{{}}},
	}
}

// P10.1: ErrArg, if one object may not be, wherever it stands, also beside what other errors are told of.
func TestObjectsThatMayNotBe(t *testing.T) {
	beside := [][]api.Obj{
		nil,
		{object(global("x", text, 0)), object(weak("y", text, 0)), object(asked("x"))},
		{object(global("x", text, 0)), object(global("x", text, 0))},
		{object(global("x", text, 0), global("x", data, 0))},
		{object(asked("u"))},
		{object(global("x", text, 0), asked("u")), object(global("x", data, 0))},
		slices.Repeat([]api.Obj{object(weak("w", zeros, 0))}, 7),
	}
	for _, wrong := range wrongs() {
		for _, l := range beside {
			for at := range len(l) + 1 {
				mustFail(t, api.ErrArg, slices.Insert(slices.Clone(l), at, wrong)...)
			}
		}
		mustFail(t, api.ErrArg, wrong, wrong)
	}
}

// spread tells symbols in all the ways in which they stand in objects, one behind the other.
func spread(syms ...api.Sym) [][]api.Obj {
	all := [][]api.Obj{}
	for cuts := range 1 << max(0, len(syms)-1) {
		l, from := []api.Obj{}, 0
		for i := range syms {
			if i == len(syms)-1 || cuts>>i%2 == 1 {
				l = append(l, object(syms[from:i+1]...))
				from = i + 1
			}
		}
		all = append(all, l)
	}
	return all
}

// mustDefine holds symbols to the one (from 0 on) that is the only definition, however they stand in objects.
func mustDefine(t *testing.T, which int, syms ...api.Sym) {
	t.Helper()
	for _, l := range spread(syms...) {
		o, s := 0, which+1
		for s >= len(l[o].Syms) {
			s -= len(l[o].Syms) - 1
			o++
		}
		mustTell(t, l, def(syms[which].Name, o, s))
	}
}

// mustFailSpread holds symbols to an error, however they stand in objects.
func mustFailSpread(t *testing.T, code api.Code, syms ...api.Sym) {
	t.Helper()
	for _, l := range spread(syms...) {
		mustFail(t, code, l...)
	}
}

// P10.1: a Global symbol is the definition ahead of all Weak ones, and the first of these, if there is none.
func TestWeakAndGlobal(t *testing.T) {
	w, v, g := weak("x", text, 1), weak("x", data, 2), global("x", text, 3)
	mustDefine(t, 0, g)
	mustDefine(t, 0, w)
	mustDefine(t, 0, w, v)
	mustDefine(t, 0, v, w)
	mustDefine(t, 0, w, v, w, v)
	mustDefine(t, 1, w, g)
	mustDefine(t, 0, g, w)
	mustDefine(t, 1, w, g, v)
	mustDefine(t, 0, g, w, v)
	mustDefine(t, 2, w, v, g)
	mustDefine(t, 3, w, v, w, g, v, w)
	absolute, zero := weak("x", -1, 9), global("x", -1, 0)
	mustDefine(t, 0, absolute)
	mustDefine(t, 0, zero)
	mustDefine(t, 0, absolute, w)
	mustDefine(t, 0, w, absolute)
	mustDefine(t, 1, absolute, g)
	mustDefine(t, 1, w, zero)
	mustDefine(t, 0, zero, w)
	mustDefine(t, 1, absolute, zero, absolute)
}

// P10.1: ErrDup, if two Global symbols define one name.
func TestTwoGlobals(t *testing.T) {
	x, same, absolute, w := global("x", text, 1), global("x", data, 2), global("x", -1, 3), weak("x", text, 4)
	mustFailSpread(t, api.ErrDup, x, x)
	mustFailSpread(t, api.ErrDup, x, same)
	mustFailSpread(t, api.ErrDup, x, absolute)
	mustFailSpread(t, api.ErrDup, absolute, x)
	mustFailSpread(t, api.ErrDup, absolute, absolute)
	mustFailSpread(t, api.ErrDup, x, same, absolute)
	mustFailSpread(t, api.ErrDup, w, x, w, same, w)
	mustFailSpread(t, api.ErrDup, x, w, same)
	mustFailSpread(t, api.ErrDup, x, asked("x"), hoped("x"), same)
	mustFailSpread(t, api.ErrDup, global("a", text, 0), x, global("b", text, 0), same, global("c", text, 0))
	// Both errors at once: ErrDup is told first, whichever stands ahead, of one name and of two.
	mustFailSpread(t, api.ErrDup, asked("u"), x, same)
	mustFailSpread(t, api.ErrDup, x, asked("u"), same)
	mustFailSpread(t, api.ErrDup, x, same, asked("u"))
	mustFailSpread(t, api.ErrDup, asked("a"), x, same, asked("z"))
	for _, l := range [][]api.Obj{{object(asked("u"), x, same)}, {object(asked("u")), object(x), object(same)}} {
		mustFail(t, api.ErrArg, append(l, api.Obj{})...)
	}
}

// P10.1: two Global symbols of one name, of which one is in a dropped section, are none that define it twice.
func TestTwoGlobalsAndADroppedOne(t *testing.T) {
	first := grouped(object(global("g", text, 0), global("x", text, 3)), 1, text)
	second := grouped(object(global("g", text, 1), global("x", text, 4)), 1, text)
	mustTell(t, []api.Obj{first, second}, def("g", 0, 1), def("x", 0, 2))
	mustTell(t, []api.Obj{second, first, second}, def("g", 0, 1), def("x", 0, 2))
	mustFail(t, api.ErrDup, first, object(global("x", text, 0)), second)
	mustFail(t, api.ErrDup, object(global("g", text, 0)), first)
	mustFail(t, api.ErrDup, first, second, object(global("g", -1, 0)))
	mustFail(t, api.ErrDup, first, grouped(object(global("g", -1, 1)), 1, text))
	mustFail(t, api.ErrDup, first, grouped(object(global("g", data, 1)), 1, text))
	mustFail(t, api.ErrDup, first, grouped(object(global("g", text, 1), global("x", data, 4)), 1, text))
	// One object alone, of two groups of one name, of which the second one is dropped.
	alone := object(local("g", text, 0), local("g", data, 0), global("x", text, 1), global("x", data, 2))
	mustTell(t, []api.Obj{grouped(grouped(alone, 1, text), 2, data)}, def("x", 0, 3))
	mustTell(t, []api.Obj{grouped(grouped(alone, 1, data), 2, text)}, def("x", 0, 4))
	mustFail(t, api.ErrDup, alone)
	mustFail(t, api.ErrDup, grouped(alone, 1, text, data))
	mustFail(t, api.ErrDup, grouped(grouped(alone, 1, text), 2, zeros))
}

// P10.1: ErrUndef, if a Global symbol that is undefined has a name without a definition.
func TestUndefined(t *testing.T) {
	u := asked("x")
	for _, d := range []api.Sym{global("x", text, 1), global("x", -1, 2), weak("x", data, 3), weak("x", -1, 4), weak("x", zeros, 0)} {
		mustDefine(t, 0, d, u)
		mustDefine(t, 1, u, d)
		mustDefine(t, 1, u, d, u)
		mustDefine(t, 2, u, hoped("x"), d, u, hoped("x"))
	}
	mustFailSpread(t, api.ErrUndef, u)
	mustFailSpread(t, api.ErrUndef, u, u)
	mustFailSpread(t, api.ErrUndef, u, hoped("x"))
	mustFailSpread(t, api.ErrUndef, hoped("x"), u, hoped("x"))
	mustFailSpread(t, api.ErrUndef, local("x", text, 0), u)
	mustFailSpread(t, api.ErrUndef, local("x", -1, 7), u)
	mustFail(t, api.ErrUndef, object(u), object(local("x", text, 0)))
	mustFailSpread(t, api.ErrUndef, global("y", text, 0), u, global("xx", text, 0), weak("X", -1, 0))
	mustFailSpread(t, api.ErrUndef, global("a", text, 0), global("y", text, 0), u)
	mustFailSpread(t, api.ErrUndef, u, global("a", text, 0), asked("a"), global("y", text, 0))
}

// P10.1: a Global symbol of a dropped section is asked for a definition, too.
func TestGlobalsOfDroppedSections(t *testing.T) {
	first := grouped(object(local("g", text, 0)), 1, text)
	gone := grouped(object(local("g", text, 0), global("x", text, 3)), 1, text)
	mustFail(t, api.ErrUndef, first, gone)
	mustFail(t, api.ErrUndef, first, object(asked("x")), gone)
	mustFail(t, api.ErrUndef, first, gone, gone, object(hoped("x"), asked("x")))
	mustFail(t, api.ErrUndef, first, gone, grouped(object(local("g", text, 0), weak("x", text, 1)), 1, text))
	mustFail(t, api.ErrUndef, first, gone, object(local("x", text, 0)))
	weakly := grouped(object(local("g", text, 0), weak("x", text, 1)), 1, text)
	mustFail(t, api.ErrUndef, first, object(asked("x")), weakly)
	mustFail(t, api.ErrUndef, first, weakly, object(asked("x")))
	mustTell(t, []api.Obj{weakly, first, object(asked("x"))}, def("x", 0, 2))
	for _, d := range []api.Sym{global("x", text, 1), global("x", -1, 0), weak("x", data, 2), weak("x", -1, 8)} {
		mustTell(t, []api.Obj{first, gone, object(d)}, def("x", 2, 1))
		mustTell(t, []api.Obj{object(d), first, gone}, def("x", 0, 1))
		mustTell(t, []api.Obj{first, object(d), gone, gone}, def("x", 1, 1))
		mustTell(t, []api.Obj{first, object(asked("x")), gone, object(hoped("x"), d)}, def("x", 3, 2))
	}
	// In its own object, in a section that isn't dropped.
	own := grouped(object(local("g", text, 0), global("x", text, 3), weak("x", data, 1)), 1, text)
	mustTell(t, []api.Obj{first, own}, def("x", 1, 3))
	// One that is first isn't dropped, and defines its name.
	mustTell(t, []api.Obj{gone, first}, def("x", 0, 2))
}

// P10.1: a Weak symbol that is undefined, or in a dropped section, is no error, and no definition.
func TestWeakWithoutADefinition(t *testing.T) {
	mustTell(t, []api.Obj{object(hoped("x"))})
	mustTell(t, []api.Obj{object(hoped("x"), hoped("x")), object(hoped("x")), object(local("x", text, 0))})
	first := grouped(object(local("g", text, 0)), 1, text)
	gone := grouped(object(local("g", text, 0), weak("x", text, 3)), 1, text)
	mustTell(t, []api.Obj{first, gone})
	mustTell(t, []api.Obj{first, object(hoped("x")), gone})
	mustTell(t, []api.Obj{first, gone, object(weak("x", zeros, 5))}, def("x", 2, 1))
	mustTell(t, []api.Obj{gone, gone, object(weak("x", zeros, 5))}, def("x", 0, 2))
	mustDefine(t, 1, hoped("x"), weak("x", text, 0))
	mustDefine(t, 1, hoped("x"), global("x", text, 0))
	mustDefine(t, 0, weak("x", text, 0), hoped("x"))
	mustDefine(t, 0, global("x", text, 0), hoped("x"))
}

// mustDrop holds which sections are dropped.
func mustDrop(t *testing.T, want [][]bool, l ...api.Obj) {
	t.Helper()
	if got := mustResolve(t, l).Dropped; !slices.EqualFunc(got, want, slices.Equal) {
		t.Errorf("of %+v are dropped %v; want %v", l, got, want)
	}
}

// manyG tells an object of three symbols of one name, and one of another.
func manyG() api.Obj {
	return object(local("g", text, 0), local("h", text, 0), local("g", data, 0), local("g", -1, 0))
}

// no, one, two and three tell that no section, or just that one, is dropped.
func no() []bool    { return []bool{false, false, false} }
func one() []bool   { return []bool{true, false, false} }
func two() []bool   { return []bool{false, true, false} }
func three() []bool { return []bool{false, false, true} }

// P10.1: which groups, and which sections, of one object are dropped.
func TestDroppedInOneObject(t *testing.T) {
	g := manyG()
	mustDrop(t, [][]bool{no()}, grouped(g, 1, text))
	mustDrop(t, [][]bool{no()}, grouped(g, 1, text, data, zeros))
	mustDrop(t, [][]bool{two()}, grouped(grouped(g, 1, text), 1, data))
	mustDrop(t, [][]bool{two()}, grouped(grouped(g, 1, text), 3, data))
	mustDrop(t, [][]bool{one()}, grouped(grouped(g, 1, data), 3, text))
	mustDrop(t, [][]bool{one()}, grouped(grouped(g, 3, data), 1, text))
	mustDrop(t, [][]bool{no()}, grouped(grouped(g, 1, text), 2, data))
	mustDrop(t, [][]bool{{false, true, true}}, grouped(grouped(grouped(g, 1, text), 3, data), 4, zeros))
	mustDrop(t, [][]bool{{false, true, true}}, grouped(grouped(g, 1, text), 4, data, zeros))
	mustDrop(t, [][]bool{three()}, grouped(grouped(grouped(g, 1, text), 2, data), 3, zeros))
}

// P10.1: which ones of several objects are dropped, which may have unlike numbers of symbols, of sections, of members.
func TestDroppedInSeveralObjects(t *testing.T) {
	g := manyG()
	other := object(local("a", text, 0), local("h", text, 0), local("b", text, 0), local("c", text, 0), local("g", zeros, 0))
	mustDrop(t, [][]bool{no(), one()}, grouped(g, 1, text), grouped(g, 1, text))
	mustDrop(t, [][]bool{no(), two()}, grouped(g, 1, text), grouped(other, 5, data))
	mustDrop(t, [][]bool{no(), {true, true, true}}, grouped(g, 1, text), grouped(other, 5, text, data, zeros))
	mustDrop(t, [][]bool{no(), {true, false, true}}, grouped(g, 1, data), grouped(other, 5, text, zeros))
	mustDrop(t, [][]bool{no(), no()}, grouped(g, 1, text), grouped(g, 2, text))
	mustDrop(t, [][]bool{no(), no()}, grouped(g, 1, text), grouped(other, 1, text))
	mustDrop(t, [][]bool{no(), no(), {false, true, true}}, grouped(g, 1, text), grouped(g, 2, text), grouped(grouped(other, 5, zeros), 2, data))
	mustDrop(t, [][]bool{no(), three()}, grouped(g, 1, text), grouped(grouped(other, 1, data), 5, zeros))
	mustDrop(t, [][]bool{no(), one(), one()}, grouped(g, 1, text), grouped(g, 1, text), grouped(g, 4, text))
	mustDrop(t, [][]bool{no(), no(), one(), no(), two()}, object(), grouped(g, 1, text), grouped(g, 1, text), g, grouped(other, 5, data))
	mustDrop(t, [][]bool{two(), two()}, grouped(grouped(g, 2, text), 2, data), grouped(grouped(g, 1, text), 1, data))
	// Without sections, and of symbols that are a group's name elsewhere, and no group's here.
	mustDrop(t, [][]bool{{}, no(), one()}, api.Obj{Syms: []api.Sym{{}}}, grouped(g, 1, text), grouped(g, 1, text))
	mustDrop(t, [][]bool{no(), no(), no()}, g, grouped(g, 1, text), object(local("g", text, 0), hoped("g"), weak("g", text, 0)))
}

// P10.1: a group's name is that of its symbol, be it Local, Global, Weak, undefined, absolute, or empty.
func TestNamesOfGroups(t *testing.T) {
	ways := []api.Sym{local("g", text, 0), local("g", data, 3), local("g", -1, 5), hoped("g"), weak("g", text, 0), weak("g", -1, 7), asked("g")}
	for _, a := range append(ways, global("g", text, 0), global("g", -1, 0)) {
		for _, b := range ways {
			l := []api.Obj{grouped(object(a), 1, text), grouped(object(b), 1, text), object(weak("g", zeros, 0))}
			mustDrop(t, [][]bool{no(), one(), no()}, l...)
		}
	}
	nameless := grouped(object(local("", text, 0)), 1, text)
	mustDrop(t, [][]bool{no(), one()}, nameless, nameless)
	mustDrop(t, [][]bool{no(), no()}, nameless, grouped(object(local("g", text, 0)), 1, text))
	mustDrop(t, [][]bool{no(), no(), no()}, object(local("", text, 0)), nameless, object(local("", text, 0)))
	for _, name := range []string{"G", "gg", "g ", " g", "h", "g\x01", "g\xff"} {
		mustDrop(t, [][]bool{no(), no()}, grouped(object(local("g", text, 0)), 1, text), grouped(object(local(name, text, 0)), 1, text))
	}
}

// P10.1: a section that is in no group, beside one of a dropped group.
func TestSectionsBesideADroppedOne(t *testing.T) {
	l := object(weak("g", text, 0), weak("beside", data, 1), weak("member", zeros, 2))
	first := grouped(object(local("g", text, 0)), 1, text)
	mustTell(t, []api.Obj{first, grouped(l, 1, text)}, def("beside", 1, 2), def("member", 1, 3))
	mustTell(t, []api.Obj{first, grouped(l, 1, text, zeros)}, def("beside", 1, 2))
	mustTell(t, []api.Obj{first, grouped(l, 1, zeros)}, def("beside", 1, 2), def("g", 1, 1))
	mustTell(t, []api.Obj{first, grouped(l, 1, data)}, def("g", 1, 1), def("member", 1, 3))
	mustTell(t, []api.Obj{first, grouped(l, 1, text, data, zeros)})
}

// P10.1: a Local symbol defines no name.
func TestLocals(t *testing.T) {
	mustTell(t, []api.Obj{object(local("x", text, 0)), object(local("x", text, 0))})
	mustTell(t, []api.Obj{object(local("x", text, 0), local("x", data, 0), local("x", -1, 0), local("", -1, 0))})
	mustTell(t, []api.Obj{object(local("x", text, 0)), object(global("x", text, 1)), object(local("x", text, 2))}, def("x", 1, 1))
	mustTell(t, []api.Obj{object(local("x", text, 0), global("x", text, 1))}, def("x", 0, 2))
	mustTell(t, []api.Obj{object(local("x", -1, 0), weak("x", text, 1)), object(asked("x"))}, def("x", 0, 2))
}
