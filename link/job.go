package link

import (
	"bytes"
	"slices"
	"sync"
	"sync/atomic"

	"fishplate/api"
)

// Job links once, whoever asks, and counts how often it was asked.
type Job struct {
	asked atomic.Int64
	once  sync.Once
	objs  [][]byte
	opts  api.Opts
	image []byte
	err   error
}

// New tells a job: P20.2.
func New(l [][]byte, o api.Opts) *Job {
	j := &Job{objs: make([][]byte, len(l)), opts: o}
	for i, b := range l {
		j.objs[i] = bytes.Clone(b)
	}
	j.opts.Need, j.opts.Keep = slices.Clone(o.Need), slices.Clone(o.Keep)
	return j
}

// Image tells what is linked: P20.2.
func (j *Job) Image() ([]byte, error) {
	if j == nil {
		return nil, api.ErrArg
	}
	j.asked.Add(1)
	j.once.Do(j.link)
	return bytes.Clone(j.image), j.err
}

// Asked tells how often Image was called: P20.2.
func (j *Job) Asked() int {
	if j == nil {
		return 0
	}
	return int(j.asked.Load())
}

// link links, and lets go of what was handed in, as it isn't asked for again.
func (j *Job) link() {
	j.image, j.err = Link(j.objs, j.opts)
	j.objs, j.opts = nil, api.Opts{}
}
