package names_test

import (
	"math"
	"slices"
	"testing"

	"fishplate/api"
	"fishplate/names"
)

// mustBe holds where a symbol is.
func mustBe(t *testing.T, l []api.Obj, table names.Table, o, s int, want names.Place) {
	t.Helper()
	for range 2 {
		if got, err := names.Where(l, table, o, s); got != want || err != nil {
			t.Errorf("Where(%+v, %+v, %d, %d) = %+v, %v; want %+v", l, table, o, s, got, err, want)
		}
	}
}

// mustBeNowhere holds where a symbol is to an error, with a zero place.
func mustBeNowhere(t *testing.T, code api.Code, l []api.Obj, table names.Table, o, s int) {
	t.Helper()
	for range 2 {
		if got, err := names.Where(l, table, o, s); got != (names.Place{}) || !isCode(err, code) {
			t.Errorf("Where(%+v, %+v, %d, %d) = %+v, %v; want %v", l, table, o, s, got, err, code)
		}
	}
}

// P10.2: each symbol of ordinary objects, by hand.
func TestWhereOfOrdinaryObjects(t *testing.T) {
	l := ordinary()
	table := mustResolve(t, l)
	want := [][]names.Place{
		{number(0), at(0, data, 4), at(0, text, 0), at(2, data, 8), at(1, text, 2), number(0), at(1, data, 6)},
		{number(0), at(1, text, 1), at(1, text, 2), at(1, data, 6), number(300), at(0, text, 0)},
		{number(0), {}, at(1, text, 2), at(2, data, 8), number(300), at(1, text, 2)},
	}
	for o := range l {
		for s := range l[o].Syms {
			if o == 2 && s == 1 {
				mustBeNowhere(t, api.ErrUndef, l, table, o, s)
			} else {
				mustBe(t, l, table, o, s, want[o][s])
			}
		}
	}
}

// P10.2: ErrArg, if there is no such object, or symbol.
func TestSymbolsThatThereAreNot(t *testing.T) {
	l := []api.Obj{object(local("a", text, 1), global("x", text, 3)), object(), object(global("y", -1, 2), asked("x"), hoped("z"), weak("x", data, 0))}
	table := mustResolve(t, l)
	far := []int{math.MinInt, math.MinInt + 1, -1 << 32, -2, -1, 5, 6, 7, 8, 127, 128, 255, 256, 1 << 31, 1 << 32, 1<<32 + 1, math.MaxInt - 1, math.MaxInt}
	for o, one := range l {
		last := len(one.Syms) - 1
		if _, err := names.Where(l, table, o, last); err != nil {
			t.Errorf("the last symbol of object %d: %v", o, err)
		}
		for _, s := range append(far, last+1, last+2) {
			mustBeNowhere(t, api.ErrArg, l, table, o, s)
		}
		for _, s := range append(far, 0, last, last+1) {
			for _, o := range append(far, 3, 4) {
				mustBeNowhere(t, api.ErrArg, l, table, o, s)
			}
		}
	}
	for _, n := range append(far, 0, 1) {
		mustBeNowhere(t, api.ErrArg, nil, mustResolve(t, nil), n, 0)
		mustBeNowhere(t, api.ErrArg, nil, table, 0, n)
		mustBeNowhere(t, api.ErrArg, []api.Obj{}, names.Table{}, n, n)
	}
}

// P10.2: symbol 0 of each object is the number 0, also where all else of it is dropped.
func TestSymbolZero(t *testing.T) {
	o := grouped(object(local("g", text, 1), weak("x", data, 1)), 1, text, data, zeros)
	l := slices.Repeat([]api.Obj{o, {Syms: []api.Sym{{}}}}, 4)
	table := mustResolve(t, l)
	for o := range l {
		mustBe(t, l, table, o, 0, number(0))
	}
}

// kinds tells an object of sections of all kinds, with a Local symbol in each one: at its beginning, and at its end.
func kinds() api.Obj {
	bytes := func(name string, flags, align, ent int, text string) api.Sec {
		return api.Sec{Name: name, Type: api.ProgBits, Flags: flags, Align: align, Ent: ent, Size: len(text), Data: []byte(text)}
	}
	o := api.Obj{
		Secs: []api.Sec{
			bytes(".text", api.Alloc|api.Exec, 16, 0, "0123456789"),
			bytes(".data", api.Alloc|api.Write|api.Retain, 4096, 0, "01234567"),
			{Name: ".bss", Type: api.NoBits, Flags: api.Alloc | api.Write, Align: 1, Size: api.MaxAddr},
			bytes(".rodata.str", api.Alloc|api.Merge|api.Strings, 1, 1, "a\x00bc\x00"),
			bytes(".rodata.cst", api.Alloc|api.Merge, 4, 8, "0123456789abcdef"),
			bytes(".meta", api.Alloc|api.Order, 1, 0, "x"),
			bytes(".comment", 0, 1, 0, "not laid"),
			bytes(".empty", api.Alloc, 1, 0, ""),
			bytes(".merged", api.Alloc|api.Merge|api.Strings, 1, 1, ""),
			{Name: "", Type: api.NoBits, Flags: api.Write, Align: 1},
		},
		Syms: []api.Sym{{}},
	}
	o.Secs[5].Link = 1
	for i, s := range o.Secs {
		o.Syms = append(o.Syms, local("l", i+1, 0), local("", i+1, s.Size))
	}
	return o
}

// P10.2: a Local symbol in each kind of section is where it is by itself; ErrUndef, if its section is dropped.
func TestLocalsInEachKindOfSection(t *testing.T) {
	o := kinds()
	l := []api.Obj{object(), o, o}
	table := mustResolve(t, l)
	for i, sec := range o.Secs {
		for o := 1; o <= 2; o++ {
			mustBe(t, l, table, o, 2*i+1, at(o, i+1, 0))
			mustBe(t, l, table, o, 2*i+2, at(o, i+1, sec.Size))
		}
	}
	first := grouped(object(local("g", text, 0)), 1, text)
	for i := range o.Secs {
		gone := kinds()
		gone.Syms = append(gone.Syms, weak("g", i+1, 0))
		gone = grouped(gone, 21, i+1)
		l := []api.Obj{first, gone}
		table := mustResolve(t, l)
		for s := 1; s <= 20; s++ {
			if n := (s + 1) / 2; n == i+1 {
				mustBeNowhere(t, api.ErrUndef, l, table, 1, s)
			} else {
				mustBe(t, l, table, 1, s, at(1, n, gone.Syms[s].Value))
			}
		}
		// The same group, ahead of all others.
		l = []api.Obj{gone, first}
		table = mustResolve(t, l)
		mustBe(t, l, table, 0, 2*i+1, at(0, i+1, 0))
		mustBe(t, l, table, 0, 21, at(0, i+1, 0))
		mustBeNowhere(t, api.ErrUndef, l, table, 1, 1)
	}
}

// P10.2: absolute symbols are numbers, of no object, whichever object they are of.
func TestAbsoluteSymbols(t *testing.T) {
	for _, v := range []int{0, 1, 2, 4096, 65521, api.MaxAddr - 1, api.MaxAddr} {
		o := object(local("l", -1, v), weak("w", -1, v), hoped("n"))
		all := grouped(object(local("g", text, 0), local("l", -1, v), global("f", -1, v), asked("f"), asked("w"), weak("f", text, 1)), 1, text, data, zeros)
		l := []api.Obj{object(), grouped(object(local("g", text, 0)), 1, text), o, all}
		table := mustResolve(t, l)
		for _, s := range [][2]int{{2, 1}, {2, 2}, {3, 2}, {3, 3}, {3, 4}, {3, 5}, {3, 6}} {
			mustBe(t, l, table, s[0], s[1], number(v))
		}
		mustBe(t, l, table, 2, 3, number(0))
		mustBeNowhere(t, api.ErrUndef, l, table, 3, 1)
	}
}

// P10.1, P10.2: an object without sections may define names, too, and ask for some.
func TestObjectsWithoutSections(t *testing.T) {
	bare := func(y ...api.Sym) api.Obj { return api.Obj{Syms: append([]api.Sym{{}}, y...)} }
	for _, d := range []api.Sym{global("x", -1, 5), weak("x", -1, 5)} {
		mustTell(t, []api.Obj{bare(d)}, def("x", 0, 1))
		mustTell(t, []api.Obj{bare(local("x", -1, 6), d, asked("x"), hoped("x"))}, def("x", 0, 2))
		l := []api.Obj{bare(asked("x"), asked("f")), bare(local("l", -1, 7), d), object(asked("x"), weak("f", data, 3))}
		table := mustTell(t, l, def("f", 2, 2), def("x", 1, 2))
		mustBe(t, l, table, 0, 1, number(5))
		mustBe(t, l, table, 0, 2, at(2, data, 3))
		mustBe(t, l, table, 1, 1, number(7))
		mustBe(t, l, table, 2, 1, number(5))
	}
	mustFail(t, api.ErrDup, bare(global("x", -1, 5)), bare(global("x", -1, 5)))
	mustFail(t, api.ErrUndef, bare(global("x", -1, 5)), bare(asked("y")))
}

// P10.2: a Global or Weak symbol is where its name's definition is, here or elsewhere, whatever it tells itself.
func TestGlobalAndWeakSymbols(t *testing.T) {
	l := []api.Obj{
		object(local("x", zeros, 7), weak("x", text, 1), asked("y"), hoped("z")),
		object(global("x", data, 2), weak("y", data, 3), weak("y", -1, 9), weak("z", zeros, 70000)),
		object(asked("x"), weak("x", -1, 4), asked("y"), weak("y", text, 5), weak("z", text, 6)),
	}
	table := mustResolve(t, l)
	x, y, z := at(1, data, 2), at(1, data, 3), at(1, zeros, 70000)
	want := [][]names.Place{{number(0), at(0, zeros, 7), x, y, z}, {number(0), x, y, y, z}, {number(0), x, x, y, y, z}}
	for o := range l {
		for s := range l[o].Syms {
			mustBe(t, l, table, o, s, want[o][s])
		}
	}
	// The same ones behind four others: each of them four objects further.
	l = append(slices.Repeat([]api.Obj{object(local("x", text, 0))}, 4), l...)
	table = mustResolve(t, l)
	for _, s := range [][2]int{{4, 2}, {5, 1}, {6, 1}, {6, 2}} {
		mustBe(t, l, table, s[0], s[1], at(5, data, 2))
	}
	mustBe(t, l, table, 6, 5, at(5, zeros, 70000))
	mustBe(t, l, table, 4, 1, at(4, zeros, 7))
}

// P10.2: a symbol of a dropped section that another object defines.
func TestSymbolsOfDroppedSections(t *testing.T) {
	g := func(y ...api.Sym) api.Obj {
		return grouped(object(append([]api.Sym{local("g", data, 0)}, y...)...), 1, text)
	}
	l := []api.Obj{g(weak("w", text, 1), global("f", text, 2)), g(weak("w", text, 3), global("f", text, 4), weak("n", text, 5)), object(global("w", zeros, 6))}
	table := mustResolve(t, l)
	for o := range 2 {
		mustBe(t, l, table, o, 1, at(o, data, 0))
		mustBe(t, l, table, o, 2, at(2, zeros, 6))
		mustBe(t, l, table, o, 3, at(0, text, 2))
	}
	mustBe(t, l, table, 1, 4, number(0))
	mustBe(t, l[:2], mustResolve(t, l[:2]), 1, 2, at(0, text, 1))
	// A section of a dropped group, and one of the same number of another object, or of a kept group, beside it.
	both := grouped(grouped(object(local("g", text, 0), local("h", data, 1), local("i", zeros, 2)), 1, text), 2, data)
	l = []api.Obj{g(), both, both}
	table = mustResolve(t, l)
	mustBeNowhere(t, api.ErrUndef, l, table, 1, 1)
	mustBe(t, l, table, 1, 2, at(1, data, 1))
	mustBe(t, l, table, 1, 3, at(1, zeros, 2))
	mustBeNowhere(t, api.ErrUndef, l, table, 2, 1)
	mustBeNowhere(t, api.ErrUndef, l, table, 2, 2)
	mustBe(t, l, table, 2, 3, at(2, zeros, 2))
}

// P10.2: of a Weak symbol without a definition the number 0.
func TestWeakSymbolsWithoutADefinition(t *testing.T) {
	first := grouped(object(local("g", text, 0)), 1, text)
	l := []api.Obj{first, grouped(object(local("g", text, 0), hoped("x"), weak("y", text, 5)), 1, text), object(local("x", data, 0), hoped("y"))}
	table := mustResolve(t, l)
	for _, s := range [][2]int{{1, 2}, {1, 3}, {2, 2}} {
		mustBe(t, l, table, s[0], s[1], number(0))
	}
}

// P10.2: of a Global symbol without a definition ErrUndef, with what Resolve tells beside its own ErrUndef.
func TestGlobalSymbolsWithoutADefinition(t *testing.T) {
	l := []api.Obj{object(local("x", text, 4), asked("x"), hoped("x"), hoped("z")), object(asked("x"))}
	mustFail(t, api.ErrUndef, l...)
	table, _ := names.Resolve(l)
	mustBe(t, l, table, 0, 0, number(0))
	mustBe(t, l, table, 0, 1, at(0, text, 4))
	mustBeNowhere(t, api.ErrUndef, l, table, 0, 2)
	mustBe(t, l, table, 0, 3, number(0))
	mustBe(t, l, table, 0, 4, number(0))
	mustBeNowhere(t, api.ErrUndef, l, table, 1, 1)
	mustBeNowhere(t, api.ErrArg, l, table, 1, 2)
}

// P10.1, P10.2: what Type and Size a symbol has changes nothing.
func TestTypeAndSizeTellNothing(t *testing.T) {
	for kind := range 4 {
		for _, size := range []int{0, 1, 2, 12, api.MaxAddr} {
			l := []api.Obj{
				grouped(object(local("l", data, 3), local("g", -1, 4), weak("x", zeros, 2), hoped("y"), asked("z")), 2, text),
				grouped(object(local("g", text, 5), local("l", -1, 6), global("x", data, 1), hoped("n"), weak("z", text, 3), weak("z", zeros, 9)), 1, text),
			}
			for o := range l {
				for s := range l[o].Syms[1:] {
					l[o].Syms[s+1].Type, l[o].Syms[s+1].Size = kind, size
				}
			}
			table := mustTell(t, l, def("x", 1, 3), def("z", 1, 6))
			mustBe(t, l, table, 0, 1, at(0, data, 3))
			mustBe(t, l, table, 0, 3, at(1, data, 1))
			mustBe(t, l, table, 0, 4, number(0))
			mustBe(t, l, table, 0, 5, at(1, zeros, 9))
			mustBeNowhere(t, api.ErrUndef, l, table, 1, 1)
			mustBe(t, l, table, 1, 2, number(6))
			mustBe(t, l, table, 1, 5, at(1, zeros, 9))
		}
	}
}
