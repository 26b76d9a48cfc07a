package graph_test

import (
	"testing"

	"fishplate/api"
)

// uniques tells which nodes of a graph are Unique, by a letter each.
func uniques(g api.Graph) string {
	s := ""
	for _, n := range g.Nodes {
		if n.Unique {
			s += "U"
		} else {
			s += "-"
		}
	}
	return s
}

// mustCount holds which nodes are Unique.
func mustCount(t *testing.T, want string, l ...api.Obj) {
	t.Helper()
	mustBeObjects(t, l...)
	if got := uniques(hold(t, l, "main")); got != want {
		t.Errorf("%s are Unique; want %s: %+v", got, want, l)
	}
}

// six tells an object of six nodes in five sections; each but the last one has a Local symbol, of its number.
func six(more ...api.Sym) api.Obj {
	return object(secs(code("abc"), zeros(4), texts("a\x00b\x00"), entries(4, "0123"), code("e"), comment("f")),
		append([]api.Sym{local("", 1, 3), local("l", 2, 0), local("l", 3, 2), local("l", 4, 0), local("l", 5, 1), local("l", 6, 0)}, more...)...)
}

// P12.1: of an object without Sig each node that hasn't Merge is Unique.
func TestUniqueWithoutSig(t *testing.T) {
	mustCount(t, "UU---UU", six(), fine())
	mustCount(t, "UUU---U", fine(), six())
	mustCount(t, "UU---UUUU---U", six(), fine(), six())
}

// P12.1: of an object with Sig those alone in which a symbol is that one names.
func TestUniqueWithSig(t *testing.T) {
	mustCount(t, "------U", signed(six()), fine())
	mustCount(t, "U-----U", signed(six(), 1), fine())
	mustCount(t, "-U----U", signed(six(), 2), fine())
	mustCount(t, "------U", signed(six(), 3), fine())
	mustCount(t, "------U", signed(six(), 4), fine())
	mustCount(t, "-----UU", signed(six(), 5), fine())
	mustCount(t, "------U", signed(six(), 6), fine())
	mustCount(t, "UU---UU", signed(six(), 5, 5, 1, 2, 1, 0), fine())
	mustCount(t, "UU---UU", signed(six(), 6, 5, 4, 3, 2, 1), fine())
}

// P12.1: a symbol that names no place in a section makes nothing Unique: symbol 0, an absolute one, a Weak one that nobody defines.
func TestSigsOfNumbers(t *testing.T) {
	more := []api.Sym{global("n", -1, 1), weak("m", -1, 0), hoped("nobody")}
	for s := range 10 {
		want := []string{"------U", "U-----U", "-U----U", "------U", "------U", "-----UU", "------U", "------U", "------U", "------U"}[s]
		mustCount(t, want, signed(six(more...), s), fine())
	}
	mustCount(t, "------", signed(six(append(more, global("main", 5, 0))...), 0, 7, 8, 9))
	// Behind an object that has a first section: a number is in no section of the first object.
	mustCount(t, "-------", signed(object(secs(code("x")), global("main", 1, 0))), signed(six(more...), 0, 7, 8, 9))
}

// P12.1: a symbol that is a name is where its definition is, be that in the object of the Sig or in another one.
func TestSigsOfNames(t *testing.T) {
	// n is defined in the second section of the second object, w in the first one of the third.
	asks := signed(object(secs(code("a")), hoped("w"), asked("n"), hoped("nobody")))
	defines := signed(object(secs(code("b"), zeros(4), texts("s\x00")), weak("w", 1, 0), global("n", 2, 4), weak("s", 3, 1)))
	other := signed(object(secs(code("c"), code("d")), global("w", 1, 1), weak("n", 2, 0), hoped("s")))
	with := func(o api.Obj, sig ...int) api.Obj { return signed(o, sig...) }
	mustCount(t, "------U", asks, defines, other, fine())
	mustCount(t, "--U---U", with(asks, 2), defines, other, fine())
	mustCount(t, "----U-U", with(asks, 1), defines, other, fine())
	mustCount(t, "--U-U-U", with(asks, 1, 2, 3), defines, other, fine())
	mustCount(t, "----U-U", asks, with(defines, 1), other, fine())
	mustCount(t, "--U---U", asks, with(defines, 2), other, fine())
	mustCount(t, "------U", asks, with(defines, 3), other, fine())
	mustCount(t, "----U-U", asks, defines, with(other, 1), fine())
	mustCount(t, "--U---U", asks, defines, with(other, 2), fine())
	mustCount(t, "------U", asks, defines, with(other, 3), fine())
	mustCount(t, "--U-U-U", with(asks, 2), defines, with(other, 1), fine())
	// A Local symbol is where it is by itself, be its name defined elsewhere.
	locals := signed(object(secs(code("b"), code("e")), local("n", 1, 0), local("w", 2, 0)))
	mustCount(t, "--UU-U", with(asks, 2), with(locals, 2), signed(object(secs(code("x"), code("y")), global("n", 1, 0))), fine())
}

// P12.1: an object without Sig doesn't hang on others' Sigs, and what has Merge never is Unique.
func TestSigsBesideObjectsWithoutOne(t *testing.T) {
	plain := object(secs(code("a"), texts("s\x00"), zeros(1)), global("f", 1, 0), global("s", 2, 0))
	mustCount(t, "U-U-U", plain, signed(object(secs(code("b")), asked("f"), asked("s")), 1, 2), fine())
	mustCount(t, "U-UUU", plain, signed(object(secs(code("b")), local("l", 1, 1), asked("f"), asked("s")), 1, 2, 3), fine())
	mustCount(t, "-U-UU", signed(object(secs(code("b")), asked("s")), 1), plain, fine())
}

// P12.1: what a Sig names that is in a dropped section: a Local one is left out, another one is where its name's definition is.
func TestSigsOfDroppedSections(t *testing.T) {
	keeper := signed(grouped(object(secs(code("a"), zeros(2)), local("g", -1, 0), weak("f", 1, 0), weak("n", 2, 1)), 1, 1, 2))
	gone := grouped(object(secs(code("a"), code("b"), zeros(2)), local("g", -1, 0), local("l", 1, 0), weak("f", 1, 0), weak("k", 3, 0), weak("n", 3, 2)), 1, 1, 3)
	mustCount(t, "---U", keeper, signed(gone), fine())
	mustCount(t, "---U", keeper, signed(gone, 1), fine())
	mustCount(t, "---U", keeper, signed(gone, 2), fine())
	mustCount(t, "U--U", keeper, signed(gone, 3), fine())
	mustCount(t, "---U", keeper, signed(gone, 4), fine())
	mustCount(t, "-U-U", keeper, signed(gone, 5), fine())
	mustCount(t, "UU-U", keeper, signed(gone, 2, 5, 4, 3), fine())
	mustCount(t, "UUUU", keeper, grouped(object(secs(code("a"), code("b")), local("g", -1, 0), local("l", 1, 0), weak("f", 1, 0)), 1, 1), signed(object(nil, hoped("f"), hoped("n")), 1, 2), fine())
}

// P12.1: what a Sig names that an error would be told of as an edge's is no error: in a section without nodes.
func TestSigsOfSectionsWithoutNodes(t *testing.T) {
	o := object(secs(comment("c"), texts(""), code("x")), local("c", 1, 1), local("e", 2, 0), global("main", 3, 1), global("d", 1, 0))
	for s := range 5 {
		want := "-"
		if s == 3 {
			want = "U"
		}
		mustCount(t, want, signed(o, s))
	}
	mustCount(t, "U", signed(o, 1, 2, 3, 4))
}

// P12.1: a place at a section's end, and in one of no bytes, is in it.
func TestSigsOfEnds(t *testing.T) {
	o := object(secs(code("abc"), zeros(4), filled(".e", api.Alloc, 1, ""), filled(".f", api.Alloc, 1, "")), local("", 1, 3), local("", 2, 4), local("", 3, 0))
	mustCount(t, "U---U", signed(o, 1), fine())
	mustCount(t, "-U--U", signed(o, 2), fine())
	mustCount(t, "--U-U", signed(o, 3), fine())
}
