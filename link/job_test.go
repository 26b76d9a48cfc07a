package link_test

import (
	"bytes"
	"slices"
	"sync"
	"testing"

	"fishplate/api"
	"fishplate/link"
)

// P20.2: a nil job.
func TestNilJob(t *testing.T) {
	var j *link.Job
	for range 3 {
		if b, err := j.Image(); !isCode(err, api.ErrArg) || b != nil {
			t.Errorf("%d bytes, %v", len(b), err)
		}
		if j.Asked() != 0 {
			t.Errorf("asked %d times", j.Asked())
		}
	}
}

// P20.2: a job is asked never, once, often; and others beside it don't count.
func TestAsked(t *testing.T) {
	objs := put(t, mixed()...)
	want, _ := plainImage(objs, at("f"))
	j, other := link.New(objs, at("f")), link.New(objs, at("nowhere"))
	for n := range 100 {
		if j.Asked() != n || other.Asked() != n/2 {
			t.Fatalf("asked %d and %d times; want %d and %d", j.Asked(), other.Asked(), n, n/2)
		}
		if b, err := j.Image(); err != nil || !bytes.Equal(b, want) {
			t.Fatalf("%d bytes, %v", len(b), err)
		}
		if n%2 == 1 {
			if b, err := other.Image(); !isCode(err, api.ErrEntry) || b != nil {
				t.Fatalf("%d bytes, %v", len(b), err)
			}
		}
	}
}

// P20.2: a job tells each error, itself, again and again.
func TestJobsErrors(t *testing.T) {
	fine := put(t, one())
	for _, c := range causes(t) {
		o := at("f")
		c.opts(&o)
		j := link.New(slices.Concat(fine, c.objs), o)
		for n := range 3 {
			if b, err := j.Image(); !isCode(err, c.code) || b != nil || j.Asked() != n+1 {
				t.Errorf("%s: %d bytes, %v, asked %d times", c.name, len(b), err, j.Asked())
			}
		}
	}
	if b, err := link.New(nil, api.Opts{}).Image(); !isCode(err, api.ErrArg) || b != nil {
		t.Errorf("%d bytes, %v", len(b), err)
	}
	if b, err := link.New(nil, at("f")).Image(); !isCode(err, api.ErrEntry) || b != nil {
		t.Errorf("%d bytes, %v", len(b), err)
	}
}

// P20.2: what was handed in is changed afterwards: each byte, each list of bytes, the list of lists, and Opts' lists.
func TestWhatWasHandedInIsChangedAfterwards(t *testing.T) {
	o := api.Opts{GC: true, Join: true, Fold: true, Entry: "f", Need: []string{"u", "w"}, Keep: []string{".d*", "?str"}}
	want, _ := plainImage(put(t, mixed()...), o)
	changes := []func(l [][]byte, o api.Opts){
		func(l [][]byte, o api.Opts) { l[0] = nil },
		func(l [][]byte, o api.Opts) { l[0], l[1] = l[1], l[0] },
		func(l [][]byte, o api.Opts) { o.Need[0] = "nobody" },
		func(l [][]byte, o api.Opts) { o.Need[1] = "\x00" },
		func(l [][]byte, o api.Opts) { o.Keep[0] = "nothing" },
		func(l [][]byte, o api.Opts) { o.Keep[1] = "\x00" },
	}
	for k, b := range put(t, mixed()...) {
		for i := range b {
			changes = append(changes, func(l [][]byte, o api.Opts) { l[k][i] ^= 255 })
		}
	}
	for i, change := range changes {
		for _, asked := range []bool{false, true} {
			l, opts := put(t, mixed()...), o
			opts.Need, opts.Keep = slices.Clone(o.Need), slices.Clone(o.Keep)
			j := link.New(l, opts)
			if asked {
				j.Image()
			}
			change(l, opts)
			for range 2 {
				if b, err := j.Image(); err != nil || !bytes.Equal(b, want) {
					t.Fatalf("change %d: %d bytes, %v; want %d bytes", i, len(b), err, len(want))
				}
			}
		}
	}
}

// P20.2: bytes that were none's, and Opts that might not be, stay so, though they are made good afterwards.
func TestWhatWasWrongIsMadeGood(t *testing.T) {
	l := put(t, one())
	l[0][0]++
	j := link.New(l, at("f"))
	l[0][0]--
	if b, err := j.Image(); !isCode(err, api.ErrForm) || b != nil {
		t.Errorf("%d bytes, %v", len(b), err)
	}
	o := api.Opts{Entry: "f", Keep: []string{"\x00"}}
	j = link.New(l, o)
	o.Keep[0] = "*"
	if b, err := j.Image(); !isCode(err, api.ErrArg) || b != nil {
		t.Errorf("%d bytes, %v", len(b), err)
	}
}

// P20.2, P20.3: an image that was told is changed ahead of asking again.
func TestAnImageIsChanged(t *testing.T) {
	objs := put(t, mixed()...)
	want, _ := plainImage(objs, at("f"))
	j := link.New(objs, at("f"))
	first, _ := j.Image()
	for range 5 {
		b, err := j.Image()
		if err != nil || !bytes.Equal(b, want) {
			t.Fatalf("%d bytes, %v", len(b), err)
		}
		fill(b, 77)
		_ = append(b, 1, 2, 3)
	}
	if !bytes.Equal(first, want) {
		t.Error("an image was changed by a later one's change")
	}
}

// P20.2: many goroutines ask at the same time: all are told the same, each in memory of its own, and all are counted.
func TestManyAskAtTheSameTime(t *testing.T) {
	objs := put(t, mixed()...)
	for _, o := range []api.Opts{at("f"), at("nowhere")} {
		want, code := plainImage(objs, o)
		for range 20 {
			j := link.New(objs, o)
			const many, often = 16, 10
			var all sync.WaitGroup
			wrong := make([]bool, many)
			for i := range many {
				all.Go(func() {
					for n := range often {
						b, err := j.Image()
						wrong[i] = wrong[i] || !isCode(err, code) || !bytes.Equal(b, want) || j.Asked() <= n
						fill(b, byte(i))
					}
				})
			}
			all.Wait()
			if slices.Contains(wrong, true) || j.Asked() != many*often {
				t.Fatalf("%+v: wrong: %v, asked %d times", o, wrong, j.Asked())
			}
		}
	}
}

// P20.2: it links once: whoever asks later gets but a copy of what is there.
func TestAJobLinksOnce(t *testing.T) {
	objs := put(t, mixed()...)
	objs[1], _ = putBig(t)
	for _, o := range []api.Opts{at("f"), at("nowhere")} {
		j := link.New(objs, o)
		j.Image()
		often := testing.AllocsPerRun(50, func() { j.Image() })
		linked := testing.AllocsPerRun(3, func() { link.Link(objs, o) })
		if often > 2 || linked < 1000 {
			t.Errorf("%+v: asking again takes new memory %v times, linking %v times", o, often, linked)
		}
	}
}

// P20.2: New itself may be asked for anything.
func TestJobsOfAnything(t *testing.T) {
	for _, l := range [][][]byte{nil, {}, {nil}, {{}}, make([][]byte, 9), make([][]byte, 1000), {make([]byte, 1<<20)}} {
		for _, o := range []api.Opts{{}, at("f"), at("\x00"), {Entry: "f", Need: make([]string, 1000)}, {Entry: "f", Keep: make([]string, 17)}} {
			hold(t, l, o)
		}
	}
}
