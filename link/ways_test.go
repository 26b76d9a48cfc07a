package link_test

import (
	"slices"
	"testing"

	"fishplate/api"
	"fishplate/exec"
	"fishplate/join"
)

// mixed tells objects of which something can be left out, joined, and folded.
func mixed() []api.Obj {
	first := unsigned(object(secs(
		code("", rel(0, api.R32, 1, 0), rel(4, api.R32, 2, 0), rel(8, api.R32, 3, 0), rel(12, api.R32, 4, 1)),
		code("same"),
		code("same"),
		data("nothing."),
		texts("bc\x00abc\x00abc\x00"),
		code("same"),
	), local(2, 0), local(3, 0), local(5, 0), local(5, 7), global("f", 1, 0)))
	second := unsigned(object(secs(texts("c\x00"), fixed("fixed"), zeros(9), code("same")), weak("f", 2, 1), weak("w", 2, 2), global("u", 4, 0)))
	second.Secs[2].Flags |= api.Retain
	return []api.Obj{first, second}
}

// What the nodes of mixed are: 0 the entry, 1, 2, 7, 11 alike, 3 data, 4 "bc", 5 and 6 "abc", 8 "c", 9 fixed, 10 zeros.
const mixedNodes = 12

// all tells the numbers of all nodes of mixed.
func all() []int {
	l := make([]int, mixedNodes)
	for i := range l {
		l[i] = i
	}
	return l
}

// but tells all nodes of mixed but some.
func but(out ...int) []int {
	return slices.DeleteFunc(all(), func(i int) bool { return slices.Contains(out, i) })
}

// told is what is told of mixed in one of the eight ways.
type told struct {
	gc, join, fold bool
	kept, laid     []int
	spots          map[int]join.Spot // of those that don't stand in themselves
	faces          map[int]int       // of those that aren't their own
	sizes          [8]int            // of the output sections
}

// toldOfMixed tells that, by hand.
func toldOfMixed() []told {
	reached := []int{0, 1, 2, 4, 6, 10}
	joined := map[int]join.Spot{4: {Node: 5, At: 1}, 6: {Node: 5, At: 0}, 8: {Node: 5, At: 2}}
	joinedReached := map[int]join.Spot{4: {Node: 6, At: 1}}
	folded := map[int]int{2: 1, 7: 1, 11: 1}
	foldedReached := map[int]int{2: 1}
	return []told{
		{false, false, false, all(), all(), nil, nil, [8]int{5, 0, 0, 0, 13, 32, 8, 9}},
		{true, false, false, reached, reached, nil, nil, [8]int{0, 0, 0, 0, 7, 24, 0, 9}},
		{false, true, false, all(), but(4, 6, 8), joined, nil, [8]int{5, 0, 0, 0, 4, 32, 8, 9}},
		{true, true, false, reached, []int{0, 1, 2, 6, 10}, joinedReached, nil, [8]int{0, 0, 0, 0, 4, 24, 0, 9}},
		{false, false, true, all(), but(2, 7, 11), nil, folded, [8]int{5, 0, 0, 0, 13, 20, 8, 9}},
		{true, false, true, reached, []int{0, 1, 4, 6, 10}, nil, foldedReached, [8]int{0, 0, 0, 0, 7, 20, 0, 9}},
		{false, true, true, all(), but(2, 4, 6, 7, 8, 11), joined, folded, [8]int{5, 0, 0, 0, 4, 20, 8, 9}},
		{true, true, true, reached, []int{0, 1, 6, 10}, joinedReached, foldedReached, [8]int{0, 0, 0, 0, 4, 20, 0, 9}},
	}
}

// P20.1: each of GC, Join, Fold on and off, all eight together over the same objects.
func TestEightWays(t *testing.T) {
	l := put(t, mixed()...)
	for _, want := range toldOfMixed() {
		r, _, c := hold(t, l, api.Opts{Entry: "f", GC: want.gc, Join: want.join, Fold: want.fold})
		if c != 0 || len(r.Graph.Nodes) != mixedNodes || !slices.Equal(r.Roots, []int{0, 10}) {
			t.Fatalf("%+v: %v, %+v", want, c, r)
		}
		for i := range mixedNodes {
			spot, joined := want.spots[i]
			if !joined {
				spot = join.Spot{Node: i}
			}
			face, folded := want.faces[i]
			if !folded {
				face = i
			}
			if r.Kept[i] != slices.Contains(want.kept, i) || r.Laid[i] != slices.Contains(want.laid, i) || r.Spots[i] != spot || r.Faces[i] != face {
				t.Errorf("%+v: node %d: %v, %v, %v, %d", want, i, r.Kept[i], r.Laid[i], r.Spots[i], r.Faces[i])
			}
		}
		for k, o := range r.Plan.Outs {
			if o.Size != want.sizes[k] {
				t.Errorf("%+v: output section %d: %+v", want, k, o)
			}
		}
	}
}

// P20.1: two images of mixed, by hand: with nothing left out, and with all.
func TestTwoImages(t *testing.T) {
	l := put(t, mixed()...)
	_, b, _ := hold(t, l, at("f"))
	x, _ := exec.Load(b)
	address := func(n int) string { return string([]byte{byte(n), byte(n >> 8), byte(n >> 16), 0}) }
	want := []exec.Seg{
		{Addr: 0x400000, Size: 18, Flags: 4, Data: []byte("fixed" + "bc\x00abc\x00abc\x00" + "c\x00")},
		{Addr: 0x401000, Size: 32, Flags: 5, Data: []byte(address(0x401010) + address(0x401014) + address(0x400005) + address(0x40000d) + "samesamesamesame")},
		{Addr: 0x402000, Size: 41, Flags: 6, Data: []byte("nothing.")},
	}
	mustBe(t, x, exec.Image{Entry: 0x401000, Segs: want})
	_, b, _ = hold(t, l, api.Opts{GC: true, Join: true, Fold: true, Entry: "f"})
	x, _ = exec.Load(b)
	want = []exec.Seg{
		{Addr: 0x400000, Size: 4, Flags: 4, Data: []byte("abc\x00")},
		{Addr: 0x401000, Size: 20, Flags: 5, Data: []byte(address(0x401010) + address(0x401010) + address(0x400001) + address(0x400001) + "same")},
		{Addr: 0x402000, Size: 9, Flags: 6},
	}
	mustBe(t, x, exec.Image{Entry: 0x401000, Segs: want})
}

// mustBe holds an image against another one.
func mustBe(t *testing.T, got, want exec.Image) {
	t.Helper()
	if got.Entry != want.Entry || len(got.Segs) != len(want.Segs) {
		t.Fatalf("%+v; want %+v", got, want)
	}
	for i, s := range got.Segs {
		w := want.Segs[i]
		if s.Addr != w.Addr || s.Size != w.Size || s.Flags != w.Flags || string(s.Data) != string(w.Data) {
			t.Errorf("segment %d is %+v; want %+v", i, s, w)
		}
	}
}

// P20.1: what is needed, and what is kept by its section's name, is a root; it is kept with GC, and isn't folded.
func TestNeedKeepAreRoots(t *testing.T) {
	l := put(t, mixed()...)
	for _, c := range []struct {
		need, keep  []string
		roots, kept []int
	}{
		{nil, nil, []int{0, 10}, []int{0, 1, 2, 4, 6, 10}},
		{[]string{"u"}, nil, []int{0, 10, 11}, []int{0, 1, 2, 4, 6, 10, 11}},
		{[]string{"w", "nobody", "f", ""}, nil, []int{0, 9, 10}, []int{0, 1, 2, 4, 6, 9, 10}},
		{nil, []string{".d*"}, []int{0, 3, 10}, []int{0, 1, 2, 3, 4, 6, 10}},
		{nil, []string{"", "?str"}, []int{0, 4, 5, 6, 8, 10}, []int{0, 1, 2, 4, 5, 6, 8, 10}},
		{[]string{"u"}, []string{".rodata"}, []int{0, 9, 10, 11}, []int{0, 1, 2, 4, 6, 9, 10, 11}},
		{nil, []string{"*"}, all(), all()},
	} {
		for _, o := range ways(api.Opts{Entry: "f", Need: c.need, Keep: c.keep}) {
			r, _, _ := hold(t, l, o)
			if !slices.Equal(r.Roots, c.roots) {
				t.Errorf("%+v: roots %v; want %v", o, r.Roots, c.roots)
			}
			for i, kept := range r.Kept {
				if kept != (!o.GC || slices.Contains(c.kept, i)) {
					t.Errorf("%+v: node %d is kept: %v", o, i, kept)
				}
			}
			for _, i := range c.roots {
				if r.Faces[i] != i {
					t.Errorf("%+v: the root %d has a face: %v", o, i, r.Faces)
				}
			}
		}
	}
}

// P20.1: functions are folded by what their strings are, if these are joined, and not, if they aren't.
func TestFoldedByWhatIsJoined(t *testing.T) {
	o := unsigned(object(secs(
		code("", rel(0, api.R32, 1, 0), rel(4, api.R32, 2, 0)),
		code("", rel(0, api.R32, 3, 0)),
		code("", rel(0, api.R32, 4, 0)),
		texts("s\x00s\x00"),
	), local(2, 0), local(3, 0), local(4, 0), local(4, 2), global("f", 1, 0)))
	for _, opts := range ways(at("f")) {
		r, _, _ := hold(t, put(t, o), opts)
		want := 2
		if opts.Join && opts.Fold {
			want = 1
		}
		if r.Faces[2] != want || r.Laid[2] != (want == 2) || (r.Plan.Addr[1] == r.Plan.Addr[2]) != (want == 1) {
			t.Errorf("%+v: %+v", opts, r)
		}
	}
}
