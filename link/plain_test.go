package link_test

import (
	"errors"
	"reflect"
	"slices"
	"testing"

	"fishplate/api"
	"fishplate/exec"
	"fishplate/fold"
	"fishplate/graph"
	"fishplate/image"
	"fishplate/join"
	"fishplate/layout"
	"fishplate/link"
	"fishplate/mark"
	"fishplate/obj"
	"fishplate/rela"
)

// filled tells a section of ProgBits, without Merge, with bytes enough for its relocations.
func filled(name string, flags, align int, b string, rels ...api.Rel) api.Sec {
	for _, r := range rels {
		for len(b) < r.Off+rela.Width(r.Type) {
			b += "."
		}
	}
	return api.Sec{Name: name, Type: api.ProgBits, Flags: api.Alloc | flags, Align: align, Size: len(b), Data: []byte(b), Rels: rels}
}

// These tell sections of the output sections 5, 6, 0, 7, and 4.
func code(b string, rels ...api.Rel) api.Sec  { return filled(".text", api.Exec, 4, b, rels...) }
func data(b string, rels ...api.Rel) api.Sec  { return filled(".data", api.Write, 8, b, rels...) }
func fixed(b string, rels ...api.Rel) api.Sec { return filled(".rodata", 0, 2, b, rels...) }
func zeros(size int) api.Sec {
	return api.Sec{Name: ".bss", Type: api.NoBits, Flags: api.Alloc | api.Write, Align: 32, Size: size}
}
func texts(b string) api.Sec {
	return api.Sec{Name: ".str", Type: api.ProgBits, Flags: api.Alloc | api.Merge | api.Strings, Align: 1, Ent: 1, Size: len(b), Data: []byte(b)}
}

// comment tells a section without Alloc.
func comment(b string) api.Sec {
	return api.Sec{Name: ".comment", Type: api.ProgBits, Align: 1, Size: len(b), Data: []byte(b)}
}

// rel tells a relocation.
func rel(off, kind, sym, add int) api.Rel { return api.Rel{Off: off, Type: kind, Sym: sym, Add: add} }

// local, global and weak tell a symbol of a Bind, in a section, absolute (-1), or undefined (0).
func local(sec, value int) api.Sym { return api.Sym{Sec: sec, Value: value} }
func global(name string, sec, value int) api.Sym {
	return api.Sym{Name: name, Bind: api.Global, Sec: sec, Value: value}
}
func weak(name string, sec, value int) api.Sym {
	return api.Sym{Name: name, Bind: api.Weak, Sec: sec, Value: value}
}

// object tells an object of sections, with symbols behind the zero one.
func object(secs []api.Sec, syms ...api.Sym) api.Obj {
	return api.Obj{Secs: secs, Syms: append([]api.Sym{{}}, syms...)}
}

// secs tells a list of sections.
func secs(l ...api.Sec) []api.Sec { return l }

// grouped tells an object with all its sections in a group, of a symbol.
func grouped(sym int, o api.Obj) api.Obj {
	g := api.Group{Sym: sym}
	for i := range o.Secs {
		o.Secs[i].Flags |= api.Grouped
		g.Members = append(g.Members, i+1)
	}
	o.Groups = append(o.Groups, g)
	return o
}

// unsigned tells an object with a Sig of nothing: no address in it counts.
func unsigned(o api.Obj) api.Obj {
	o.HasSig = true
	return o
}

// put tells objects' bytes.
func put(t *testing.T, l ...api.Obj) [][]byte {
	t.Helper()
	var all [][]byte
	for i, o := range l {
		b, err := obj.Put(o)
		if err != nil {
			t.Fatalf("object %d may not be: %+v", i, o)
		}
		all = append(all, b)
	}
	return all
}

// at tells Opts of an entry alone.
func at(entry string) api.Opts { return api.Opts{Entry: entry} }

// ways tells Opts in all eight ways.
func ways(o api.Opts) []api.Opts {
	var l []api.Opts
	for way := range 8 {
		o.GC, o.Join, o.Fold = way&1 != 0, way&2 != 0, way&4 != 0
		l = append(l, o)
	}
	return l
}

// mayOpts tells by the chapter's words whether Opts may be.
func mayOpts(o api.Opts) bool {
	may := func(s string) bool { return len(s) <= 32 && !slices.Contains([]byte(s), 0) }
	ok := o.Entry != "" && may(o.Entry) && len(o.Need) <= 16 && len(o.Keep) <= 16
	for _, s := range slices.Concat(o.Need, o.Keep) {
		ok = ok && may(s)
	}
	return ok
}

// codeOf tells the Code that an error is; 0: there is none.
func codeOf(err error) api.Code {
	if err == nil {
		return 0
	}
	return err.(api.Code)
}

// plainGraph tells the graph by the chapter's words, and Explain's error ahead of the plan.
func plainGraph(l [][]byte, o api.Opts) (api.Graph, api.Code) {
	if len(l) > 8 || !mayOpts(o) {
		return api.Graph{}, api.ErrArg
	}
	var objs []api.Obj
	for _, b := range l {
		one, err := obj.Get(b)
		if err != nil {
			return api.Graph{}, api.ErrForm
		}
		objs = append(objs, one)
	}
	g, err := graph.Build(objs, o.Entry)
	return g, codeOf(err)
}

// plainChoice tells by the chapter's words what Explain tells, but for the plan, and its error ahead of it.
func plainChoice(l [][]byte, o api.Opts) (link.Result, api.Code) {
	g, c := plainGraph(l, o)
	if c != 0 {
		return link.Result{}, c
	}
	r := link.Result{Graph: g, Roots: mark.Roots(g, o), Kept: mark.Reach(g, mark.Roots(g, o))}
	if !o.GC {
		r.Kept = slices.Repeat([]bool{true}, len(g.Nodes))
	}
	r.Spots = join.Join(g, r.Kept)
	if !o.Join {
		for i := range g.Nodes {
			r.Spots[i] = join.Spot{Node: i}
		}
	}
	r.Faces = fold.Fold(g, r.Kept, r.Roots, r.Spots)
	if !o.Fold {
		for i := range g.Nodes {
			r.Faces[i] = i
		}
	}
	for i := range g.Nodes {
		r.Laid = append(r.Laid, r.Kept[i] && r.Faces[i] == i && r.Spots[i] == join.Spot{Node: i, At: 0})
	}
	return r, 0
}

// plain tells by the chapter's words what Explain tells.
func plain(l [][]byte, o api.Opts) (link.Result, api.Code) {
	r, c := plainChoice(l, o)
	if c != 0 {
		return r, c
	}
	var err error
	if r.Plan, err = layout.Place(r.Graph, r.Kept, r.Spots, r.Faces); err != nil {
		return link.Result{}, codeOf(err)
	}
	return r, 0
}

// plainImage tells by the chapter's words what Link tells.
func plainImage(l [][]byte, o api.Opts) ([]byte, api.Code) {
	r, c := plain(l, o)
	if c != 0 {
		return nil, c
	}
	b, err := image.Write(r.Graph, r.Plan, r.Laid)
	return b, codeOf(err)
}

// isCode tells whether an error is a Code itself; 0: whether it is none.
func isCode(err error, c api.Code) bool {
	if c == 0 {
		return err == nil
	}
	return err == c && errors.Is(err, c)
}

// even tells a result with nil for each list of no elements.
func even(r link.Result) link.Result {
	r.Graph.Nodes = slices.Clone(r.Graph.Nodes)
	for i, n := range r.Graph.Nodes {
		if len(n.Data) == 0 {
			r.Graph.Nodes[i].Data = nil
		}
		if len(n.Edges) == 0 {
			r.Graph.Nodes[i].Edges = nil
		}
	}
	if len(r.Graph.Names) == 0 {
		r.Graph.Names = nil
	}
	return r
}

// same tells whether two results are one, be lists of no elements nil or not.
func same(a, b link.Result) bool { return reflect.DeepEqual(even(a), even(b)) }

// mustFail holds Link to an error, and Explain to it, too, but for layer 18's.
func mustFail(t *testing.T, c api.Code, l [][]byte, o api.Opts) {
	t.Helper()
	if b, err := link.Link(l, o); !isCode(err, c) || b != nil {
		t.Errorf("Link of %d objects, %+v = %d bytes, %v; want %v", len(l), o, len(b), err, c)
	}
	if c == api.ErrRange {
		return
	}
	if r, err := link.Explain(l, o); !isCode(err, c) || !reflect.DeepEqual(r, link.Result{}) {
		t.Errorf("Explain of %d objects, %+v = %+v, %v; want %v", len(l), o, r, err, c)
	}
}

// mustFailAnyway holds the same in all eight ways.
func mustFailAnyway(t *testing.T, c api.Code, l [][]byte, o api.Opts) {
	t.Helper()
	for _, o := range ways(o) {
		mustFail(t, c, l, o)
	}
}

// hold holds Explain, Link, and a job, against the plain reading, and tells the result, the image, and Link's error.
func hold(t *testing.T, l [][]byte, o api.Opts) (link.Result, []byte, api.Code) {
	t.Helper()
	want, wantCode := plain(l, o)
	got, err := link.Explain(l, o)
	if !isCode(err, wantCode) || wantCode != 0 && !reflect.DeepEqual(got, link.Result{}) || !same(got, want) {
		t.Fatalf("Explain(%q, %+v) = %+v, %v; want %+v, %v", l, o, got, err, want, wantCode)
	}
	wantImage, wantCode := plainImage(l, o)
	b, err := link.Link(l, o)
	if !isCode(err, wantCode) || wantCode != 0 && b != nil || !slices.Equal(b, wantImage) {
		t.Fatalf("Link(%q, %+v): %d bytes, %v; want %d bytes, %v", l, o, len(b), err, len(wantImage), wantCode)
	}
	j := link.New(l, o)
	again, err := j.Image()
	if !isCode(err, wantCode) || wantCode != 0 && again != nil || !slices.Equal(again, wantImage) || j.Asked() != 1 {
		t.Fatalf("a job of %q, %+v: %d bytes, %v; want %d bytes, %v", l, o, len(again), err, len(wantImage), wantCode)
	}
	if wantCode == 0 {
		if _, err := exec.Load(b); err != nil {
			t.Fatalf("what is linked of %q, %+v is no image", l, o)
		}
	}
	return got, b, wantCode
}
