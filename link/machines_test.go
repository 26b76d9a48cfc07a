package link_test

import (
	"slices"
	"testing"

	"fishplate/api"
	"fishplate/block"
	"fishplate/flat"
)

// mustGoAlike holds T2 of one image behind so many steps, of a graph's machine that isn't stuck.
func mustGoAlike(t *testing.T, x linked, tape []byte, n int, want block.State) flat.State {
	t.Helper()
	got, err := flat.Run(x.image, tape, n)
	if err != nil {
		t.Fatalf("with %+v: %v", x.o, err)
	}
	if !slices.Equal(got.Events, want.Events) || (got.Status == 1) != (want.Status == 1) || got.Status == 2 {
		t.Fatalf("with %+v behind %d steps: %+v; of the graph %+v", x.o, n, got, want)
	}
	for r, v := range append(want.Regs[:], want.Ip) {
		told := append(got.Regs[:], got.Ip)[r]
		if told != block.Addr(v, x.r.Plan) {
			t.Fatalf("with %+v behind %d steps %d is %x; of the graph %+v", x.o, n, r, told, v)
		}
	}
	return got
}

// mustRunAlike holds T2 and T3 of all images, behind each of so many numbers of steps; it tells the graph's state as long as it isn't stuck.
func mustRunAlike(t *testing.T, all []linked, tape []byte, steps int) block.State {
	t.Helper()
	var last block.State
	i := slices.IndexFunc(all, func(x linked) bool { return x.r.Plan.End != 0 })
	if i < 0 {
		return last
	}
	for n := range steps {
		want, err := block.Run(all[i].r.Graph, tape, n)
		if err != nil {
			t.Fatal(err)
		}
		if want.Status == 2 {
			break
		}
		last = want
		for _, x := range all {
			if x.code != 0 {
				continue
			}
			got := mustGoAlike(t, x, tape, n, want)
			if all[0].code != 0 {
				continue
			}
			first, _ := flat.Run(all[0].image, tape, n)
			if !slices.Equal(first.Events, got.Events) || (first.Status == 1) != (got.Status == 1) {
				t.Fatalf("with %+v behind %d steps: %+v; with nothing left out %+v", x.o, n, got, first)
			}
		}
	}
	return last
}

// T1 to T6: many lists of small objects that are programs, in all eight ways, by both machines, behind each number of steps.
func TestProgramsOfAllKinds(t *testing.T) {
	var c counter
	met := map[string]int{}
	for range 500 {
		many := 1 + c.next(3)
		var l []api.Obj
		for i := range many {
			l = append(l, c.program(i, many))
		}
		all := mustHoldOfAll(t, put(t, l...), at("f"))
		last := mustRunAlike(t, all, []byte{1, 2, 3}[:c.next(4)], 90)
		met["events"] += len(last.Events)
		for _, x := range all {
			if x.code != 0 {
				t.Fatalf("%v", x.code)
			}
			met["images"]++
		}
		if last.Status == 1 {
			met["ended"]++
		}
		x := all[7]
		for i := range x.r.Kept {
			switch {
			case !x.r.Kept[i]:
				met["not kept"]++
			case x.r.Faces[i] != i:
				met["folded"]++
			case x.r.Spots[i].Node != i:
				met["joined"]++
			}
		}
	}
	if met["ended"] < 150 || met["events"] < 1500 || min(met["not kept"], met["folded"], met["joined"]) < 100 {
		t.Errorf("met: %v", met)
	}
}

// T2: lists of objects that aren't programs at all: what comes of their bytes is the same, too, as long as it isn't stuck.
func TestOthersRun(t *testing.T) {
	c := counter(5)
	for range 300 {
		all := linkAll(t, c.objects(t), c.opts())
		mustRunAlike(t, all, nil, 6)
	}
}
