package names_test

import (
	"fmt"
	"math"
	"slices"
	"strings"
	"testing"

	"fishplate/api"
	"fishplate/names"
)

// defining tells an object that defines names, Global and Weak ones by turns.
func defining(all []string) api.Obj {
	o := object()
	for i, name := range all {
		y := global(name, text, i%13)
		if i%2 == 1 {
			y = weak(name, -1, i)
		}
		o.Syms = append(o.Syms, y)
	}
	return o
}

// mustOrder holds the table of an object that defines names, as they stand, against the same ones, rising.
func mustOrder(t *testing.T, rising []string, all ...string) {
	t.Helper()
	var want []names.Def
	for _, name := range rising {
		want = append(want, def(name, 0, slices.Index(all, name)+1))
	}
	mustTell(t, []api.Obj{defining(all)}, want...)
}

// P10.1: definitions stand by rising names, byte by byte, wherever the symbols stand.
func TestOrderOfNames(t *testing.T) {
	rising := []string{"\x01", "\x01\x01", " ", ".text", "0", "10", "2", "A", "Z", "_", "a", "a\x01", "aa", "aaa", "ab", "abc", "b", "\x7f", "\x7f\xff", "\x80", "\x80\x01", "\xc2", "ä", "\xef\xbf\xbf", "\xf0\x9f\x98\x80", "\xfe", "\xff", "\xff\x01", "\xff\xff"}
	mustOrder(t, rising, rising...)
	back := slices.Clone(rising)
	slices.Reverse(back)
	mustOrder(t, rising, back...)
	for turn := range rising {
		mustOrder(t, rising, append(slices.Clone(rising[turn:]), rising[:turn]...)...)
	}
}

// P10.1: each byte that a name may have, alone and behind others; 0 may be in none.
func TestEachByteInAName(t *testing.T) {
	for _, ahead := range []string{"", "n", "\xff\x80", strings.Repeat("m", 31)} {
		for from := 1; from < 256; from += 100 {
			var rising []string
			for c := from; c < min(from+100, 256); c++ {
				rising = append(rising, ahead+string([]byte{byte(c)}))
			}
			back := slices.Clone(rising)
			slices.Reverse(back)
			mustOrder(t, rising, back...)
		}
		mustFail(t, api.ErrArg, defining([]string{ahead + "\x00"}))
	}
}

// P10.1: names of up to 32 bytes, each the beginning of the next one; one of 33 may not be.
func TestLongNames(t *testing.T) {
	for _, c := range []string{"n", "\x01", "\xff"} {
		var rising, back []string
		for n := 1; n <= 32; n++ {
			rising = append(rising, strings.Repeat(c, n))
			back = slices.Insert(back, 0, strings.Repeat(c, n))
		}
		mustOrder(t, rising, rising...)
		mustOrder(t, rising, back...)
		mustFail(t, api.ErrArg, defining([]string{strings.Repeat(c, 33)}))
	}
	long := strings.Repeat("x", 31)
	mustTell(t, []api.Obj{object(asked(long+"a"), weak(long+"b", text, 0)), object(global(long+"a", text, 1), asked(long+"b"))}, def(long+"a", 1, 1), def(long+"b", 0, 2))
	mustFail(t, api.ErrUndef, object(asked(long+"a"), global(long, text, 0), global(long+"b", text, 0)))
}

// P10.1: as many definitions as there may be, in all eight objects.
func TestAsManyAsMayBe(t *testing.T) {
	var l []api.Obj
	var want []names.Def
	for o := range 8 {
		var all []string
		for i := range 127 {
			// Turned, so that none stands where it will in the table.
			name := fmt.Sprintf("%026d%03d%03d", 0, i*50%127, (o*3+1)%8)
			all = append(all, name)
			want = append(want, def(name, o, i+1))
		}
		l = append(l, defining(all))
	}
	slices.SortFunc(want, func(a, b names.Def) int { return strings.Compare(a.Name, b.Name) })
	for range 3 {
		mustTell(t, l, want...)
	}
	mustFail(t, api.ErrArg, append(l, object())...)
	l[7].Syms[127] = l[0].Syms[1]
	mustFail(t, api.ErrDup, l...)
	l[7].Syms[127] = asked("nowhere")
	mustFail(t, api.ErrUndef, l...)
}

// mustFind holds what Find tells.
func mustFind(t *testing.T, table names.Table, name string, want names.Def, ok bool) {
	t.Helper()
	for range 2 {
		if got, found := names.Find(table, name); got != want || found != ok {
			t.Errorf("Find(%+v, %q) = %+v, %v; want %+v, %v", table, name, got, found, want, ok)
		}
	}
}

// P10.1: Find, in tables of no definition, and in the zero one.
func TestFindInAnEmptyTable(t *testing.T) {
	tables := []names.Table{{}, {Defs: []names.Def{}}, {Dropped: [][]bool{{true, false}, {}}}}
	for _, l := range [][]api.Obj{nil, {object()}, {object(local("a", text, 0), hoped("b"))}} {
		tables = append(tables, mustResolve(t, l))
	}
	for _, table := range tables {
		for _, name := range []string{"", "a", "b", "\x00", "\xff", strings.Repeat("n", 32), strings.Repeat("n", 1000)} {
			mustFind(t, table, name, names.Def{}, false)
		}
	}
}

// P10.1: Find, of names that are defined, ahead of all, behind all, and between two, in tables of each length.
func TestFind(t *testing.T) {
	for many := 1; many <= 40; many++ {
		var all []string
		for i := range many {
			all = append(all, string([]byte{'b', byte(20 + 5*i)}))
		}
		table := mustResolve(t, []api.Obj{object(), defining(all)})
		for i, name := range all {
			mustFind(t, table, name, def(name, 1, i+1), true)
			for _, c := range []byte{1, 2, 3, 4} {
				mustFind(t, table, string([]byte{'b', name[1] + c}), names.Def{}, false)
				mustFind(t, table, string([]byte{'b', name[1] - c}), names.Def{}, false)
			}
			for _, near := range []string{name + "\x00", name + "b", "a" + name[1:], "B" + name[1:], "c" + name[1:], name[1:]} {
				mustFind(t, table, near, names.Def{}, false)
			}
		}
		for _, far := range []string{"", "\x00", "a", "b", "b\x01", "a\xff", "b\xff", "c", "\xff", "bb" + all[0]} {
			mustFind(t, table, far, names.Def{}, false)
		}
	}
}

// P10.1: of a name that no symbol may have nothing is found; the empty name is none's.
func TestFindOfNamesThatMayNotBe(t *testing.T) {
	table := mustResolve(t, []api.Obj{object(local("", text, 0), local("", -1, 1), global("n", text, 0), weak(strings.Repeat("n", 32), text, 0))})
	mustFind(t, table, "n", def("n", 0, 3), true)
	mustFind(t, table, strings.Repeat("n", 32), def(strings.Repeat("n", 32), 0, 4), true)
	for _, name := range []string{"", "\x00", "n\x00", "\x00n", strings.Repeat("n", 31), strings.Repeat("n", 33), strings.Repeat("n", 1<<20), "nn"} {
		mustFind(t, table, name, names.Def{}, false)
	}
}

// P1: Find ends, and tells a definition of the table that has the name, or none, also of a table that is nobody's.
func TestFindInTablesThatAreNobodys(t *testing.T) {
	bad := []names.Def{def("z", 5, 5), def("a", -1, math.MinInt), def("", 1, 1), def("m", math.MaxInt, 2), def("a", 0, 0), def("\xff", 3, 3), def("b", 2, 1)}
	for from := range bad {
		for to := from; to <= len(bad); to++ {
			table := names.Table{Defs: bad[from:to]}
			for _, name := range []string{"", "a", "b", "c", "m", "z", "\xff", "zz"} {
				got, ok := names.Find(table, name)
				if ok && (got.Name != name || !slices.Contains(table.Defs, got)) || !ok && got != (names.Def{}) {
					t.Errorf("Find(%+v, %q) = %+v, %v", table, name, got, ok)
				}
			}
		}
	}
}
