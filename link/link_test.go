package link_test

import (
	"math"
	"slices"
	"strings"
	"testing"

	"fishplate/api"
	"fishplate/exec"
	"fishplate/link"
	"fishplate/obj"
)

// one tells an object with an entry f.
func one() api.Obj { return object(secs(code("\xc3")), global("f", 1, 0)) }

// another tells an object with a name that no other one has.
func another(i int) api.Obj {
	return object(secs(data("abc")), global("g"+string(rune('0'+i)), 1, 0))
}

// many tells so many objects, the first one with an entry f.
func many(n int) []api.Obj {
	var l []api.Obj
	for i := range n {
		l = append(l, another(i))
	}
	if n > 0 {
		l[0] = one()
	}
	return l
}

// The document's example: one object, its entry f: an image.
func TestExample(t *testing.T) {
	for _, o := range ways(at("f")) {
		r, b, _ := hold(t, put(t, one()), o)
		x, err := exec.Load(b)
		if err != nil || x.Entry != api.Base || len(x.Segs) != 1 || string(x.Segs[0].Data) != "\xc3" || x.Segs[0].Flags != 5 {
			t.Errorf("%+v, %v", x, err)
		}
		if len(r.Graph.Nodes) != 1 || !r.Kept[0] || !r.Laid[0] || r.Faces[0] != 0 || r.Spots[0].Node != 0 || !slices.Equal(r.Roots, []int{0}) || r.Plan.Entry != api.Base {
			t.Errorf("%+v", r)
		}
	}
}

// P20.1: 0 objects, 1, 8, and 9, and more.
func TestHowManyObjects(t *testing.T) {
	mustFailAnyway(t, api.ErrEntry, nil, at("f"))
	mustFailAnyway(t, api.ErrEntry, [][]byte{}, at("f"))
	for _, n := range []int{1, 2, 7, 8} {
		r, b, _ := hold(t, put(t, many(n)...), at("f"))
		if len(r.Graph.Nodes) != n || len(b) == 0 {
			t.Errorf("of %d objects: %+v", n, r)
		}
	}
	for _, n := range []int{9, 10, 100} {
		mustFailAnyway(t, api.ErrArg, put(t, many(n)...), at("f"))
		mustFailAnyway(t, api.ErrArg, make([][]byte, n), at("f"))
	}
}

// P20.1: the entry's name: empty, as long as may be, too long, with a 0.
func TestEntryNames(t *testing.T) {
	longest := strings.Repeat("n", 32)
	o := object(secs(code("xyz")), global(longest, 1, 0), global("*", 1, 1), weak("\xff", 1, 2), global(" ", 1, 3))
	for entry, want := range map[string]int{longest: 0, "*": 1, "\xff": 2, " ": 3} {
		if r, _, c := hold(t, put(t, o), at(entry)); c != 0 || r.Plan.Entry != api.Base+want {
			t.Errorf("of %q: %+v, %v", entry, r, c)
		}
	}
	for _, entry := range []string{"", longest + "n", strings.Repeat("n", 1<<16), "\x00", "*\x00", "\x00*", "a\x00b"} {
		mustFailAnyway(t, api.ErrArg, put(t, o), at(entry))
	}
	for _, entry := range []string{"n", longest[1:], "?", "f"} {
		mustFailAnyway(t, api.ErrEntry, put(t, o), at(entry))
	}
}

// P20.1: Need and Keep of 0, 1, 16, 17, with one that may not be at each place.
func TestNeedAndKeep(t *testing.T) {
	l := put(t, one())
	longest := strings.Repeat("n", 32)
	bad := []string{longest + "n", "\x00", "a\x00", "\x00a"}
	for _, n := range []int{0, 1, 2, 15, 16} {
		fine := slices.Repeat([]string{"f", longest, "", "*"}, 4)[:n]
		for _, o := range []api.Opts{{Entry: "f", Need: fine}, {Entry: "f", Keep: fine}, {Entry: "f", Need: fine, Keep: fine}} {
			for _, o := range ways(o) {
				if _, _, c := hold(t, l, o); c != 0 {
					t.Errorf("%+v: %v", o, c)
				}
			}
		}
		for i := range n {
			for _, s := range bad {
				wrong := slices.Clone(fine)
				wrong[i] = s
				mustFailAnyway(t, api.ErrArg, l, api.Opts{Entry: "f", Need: wrong})
				mustFailAnyway(t, api.ErrArg, l, api.Opts{Entry: "f", Keep: wrong})
				mustFailAnyway(t, api.ErrArg, l, api.Opts{Entry: "f", Need: fine, Keep: wrong})
				mustFailAnyway(t, api.ErrArg, l, api.Opts{Entry: "f", Need: wrong, Keep: fine})
			}
		}
	}
	for _, n := range []int{17, 18, 1000} {
		mustFailAnyway(t, api.ErrArg, l, api.Opts{Entry: "f", Need: make([]string, n)})
		mustFailAnyway(t, api.ErrArg, l, api.Opts{Entry: "f", Keep: make([]string, n)})
		mustFailAnyway(t, api.ErrArg, l, api.Opts{Entry: "f", Need: make([]string, 16), Keep: make([]string, n)})
	}
}

// swollen tells the bytes of an object that has more bytes when it is put: two of its sections have the same ones.
func swollen(t *testing.T) []byte {
	t.Helper()
	b := put(t, object(secs(data(strings.Repeat("d", 9000)), data("e")), global("s", 1, 0)))[0]
	heads := len(b) - 6*64
	copy(b[heads+2*64+24:heads+2*64+40], b[heads+64+24:heads+64+40])
	if o, err := obj.Get(b); err != nil || len(o.Secs[1].Data) != 9000 || obj.May(o) {
		t.Fatalf("%v", err)
	}
	return b
}

// cause is what an error comes of: objects, and Opts.
type cause struct {
	name string
	code api.Code
	objs [][]byte
	opts func(o *api.Opts)
}

// causes tells one cause of each error, in the order in which they are asked: each beside an object with an entry f.
func causes(t *testing.T) []cause {
	t.Helper()
	undefined := object(nil, global("nowhere", 0, 0))
	unlaid := object(secs(comment("abc"), data("", rel(0, api.R64, 1, 0))), local(1, 0))
	dropped := grouped(1, object(secs(code("x")), api.Sym{Name: "g", Sec: -1}))
	lost := object(secs(code("g"), code("", rel(0, api.R64, 2, 0))), api.Sym{Name: "g", Sec: -1}, local(1, 0))
	lost.Secs[0].Flags |= api.Grouped
	lost.Groups = []api.Group{{Sym: 1, Members: []int{1}}}
	far := object(secs(data("", rel(0, api.R32S, 0, math.MaxInt32+1))))
	two := object(secs(zeros(math.MaxInt32)))
	keep := func(o *api.Opts) {}
	return []cause{
		{"too many", api.ErrArg, make([][]byte, 9), keep},
		{"Opts", api.ErrArg, nil, func(o *api.Opts) { o.Need = []string{"\x00"} }},
		{"no bytes", api.ErrForm, [][]byte{nil}, keep},
		{"cut off", api.ErrForm, [][]byte{put(t, another(5))[0][:70]}, keep},
		{"swollen", api.ErrArg, [][]byte{swollen(t)}, keep},
		{"two of one name", api.ErrDup, put(t, object(secs(code("x")), global("f", 1, 0))), keep},
		{"undefined", api.ErrUndef, put(t, undefined), keep},
		{"in what is dropped", api.ErrUndef, put(t, dropped, lost), keep},
		{"in what isn't laid", api.ErrReloc, put(t, unlaid), keep},
		{"no entry", api.ErrEntry, nil, func(o *api.Opts) { o.Entry = "e" }},
		{"too large", api.ErrLarge, put(t, two), func(o *api.Opts) { o.Keep = []string{".bss"} }},
		{"too far", api.ErrRange, put(t, far), func(o *api.Opts) { o.Keep = append(o.Keep, ".data") }},
	}
}

// P20.1: each error by itself, in all ways; and of two at once the first one, wherever the objects stand.
func TestErrorsInTheirOrder(t *testing.T) {
	l := causes(t)
	fine := put(t, one())
	for i, a := range l {
		o := at("f")
		a.opts(&o)
		mustFailAnyway(t, a.code, slices.Concat(fine, a.objs), o)
		mustFailAnyway(t, a.code, slices.Concat(a.objs, fine), o)
		for _, b := range l[i:] {
			// These two are both asked of edges, in the order in which they stand.
			if a.name == "in what is dropped" && b.code == api.ErrReloc {
				continue
			}
			o := at("f")
			a.opts(&o)
			b.opts(&o)
			for _, objs := range [][][]byte{slices.Concat(fine, a.objs, b.objs), slices.Concat(b.objs, a.objs, fine), slices.Concat(a.objs, fine, b.objs)} {
				if got, err := link.Link(objs, o); !isCode(err, a.code) || got != nil {
					t.Errorf("%s and %s: %v; want %v", a.name, b.name, err, a.code)
				}
				hold(t, objs, o)
			}
		}
	}
}

// P20.1: where layer 18 tells an error, Explain tells all that there is.
func TestExplainTellsWhatIsTooFar(t *testing.T) {
	for _, kind := range []int{api.RPC32, api.RPLT32, api.R32, api.R32S} {
		for _, add := range []int{1 << 32, -1 << 33, math.MaxInt, math.MinInt} {
			o := object(secs(code("", rel(1, kind, 1, add))), global("f", 1, 0))
			for _, opts := range ways(at("f")) {
				mustFail(t, api.ErrRange, put(t, o), opts)
				r, _, _ := hold(t, put(t, o), opts)
				if len(r.Laid) != 1 || r.Graph.Nodes[0].Edges[0].Add != add {
					t.Errorf("%+v", r)
				}
			}
		}
	}
}

// P20.1: an error of what isn't reached goes with GC, but not layer 12's.
func TestErrorsThatAreLeftOut(t *testing.T) {
	for _, c := range causes(t)[5:] {
		o := at("f")
		if c.code == api.ErrEntry {
			continue
		}
		objs := slices.Concat(put(t, one()), c.objs)
		for _, o := range ways(o) {
			want := c.code
			if o.GC && c.code >= api.ErrRange {
				want = 0
			}
			if _, _, got := hold(t, objs, o); got != want {
				t.Errorf("%s, %+v: %v; want %v", c.name, o, got, want)
			}
		}
	}
}

// P20.1: the end just where it may be, and one beyond.
func TestEnd(t *testing.T) {
	for more, want := range []api.Code{0, api.ErrLarge} {
		o := object(secs(code("x"), zeros(1<<31-api.Base-api.Page-0+more)), global("f", 1, 0))
		for _, opts := range ways(at("f")) {
			if opts.GC {
				opts.Keep = []string{".b?s"}
			}
			if r, _, c := hold(t, put(t, o), opts); c != want || c == 0 && r.Plan.End != 1<<31 {
				t.Errorf("%v, %+v", c, r.Plan)
			}
		}
	}
}

// P1, P20.1: bytes that are none's, each alone and beside others, at all lengths.
func TestBytesThatAreNoObject(t *testing.T) {
	fine := put(t, one())[0]
	for n := range fine {
		mustFail(t, api.ErrForm, [][]byte{fine[:n]}, at("f"))
		mustFail(t, api.ErrForm, [][]byte{fine, fine[:n]}, at("f"))
		mustFail(t, api.ErrForm, [][]byte{fine[:n], fine}, at("f"))
	}
	for _, b := range [][]byte{{}, make([]byte, 64), make([]byte, 1<<16), []byte("\x7fELF"), append(slices.Clone(fine), make([]byte, api.MaxObj)...)} {
		for i := range 8 {
			l := slices.Repeat([][]byte{fine}, 8)
			l[i] = b
			mustFailAnyway(t, api.ErrForm, l, at("f"))
		}
	}
}
