package flat

import (
	"slices"

	"fishplate/api"
	"fishplate/exec"
	"fishplate/le"
)

// Flags of segments.
const (
	forRunning = 5
	forWriting = 6
)

// memory is segments, of which the stack is one, too, and what was written.
type memory struct {
	segs []exec.Seg
	// A segment may be much larger than all that is written in so few steps.
	written map[uint64]byte
}

// newMemory tells memory at first.
func newMemory(segs []exec.Seg) memory {
	stack := exec.Seg{Addr: api.Stack, Size: api.StackLen, Flags: forWriting}
	return memory{segs: append(slices.Clone(segs), stack), written: map[uint64]byte{}}
}

// find tells the segment in which some bytes from an address on all are.
func (m memory) find(addr uint64, many int) (exec.Seg, bool) {
	for _, s := range m.segs {
		// What is ahead of the segment turns over, and so is behind it.
		if off := addr - uint64(s.Addr); off < uint64(s.Size) && uint64(many) <= uint64(s.Size)-off {
			return s, true
		}
	}
	return exec.Seg{}, false
}

// bytes tells some bytes from an address on, which are in a segment.
func (m memory) bytes(s exec.Seg, addr uint64, many int) []byte {
	b := make([]byte, many)
	for i := range b {
		at := addr + uint64(i)
		v, ok := m.written[at]
		if off := at - uint64(s.Addr); !ok && off < uint64(len(s.Data)) {
			v = s.Data[off]
		}
		b[i] = v
	}
	return b
}

// code tells the bytes from an address on, as many as an instruction may have, up to the end of the segment, if it is for running.
func (m memory) code(addr uint64) []byte {
	const longest = 10
	s, ok := m.find(addr, 1)
	if !ok || s.Flags != forRunning {
		return nil
	}
	left := uint64(s.Size) - (addr - uint64(s.Addr))
	return m.bytes(s, addr, int(min(left, longest)))
}

// read tells the number that stands at an address.
func (m memory) read(addr uint64, width int) (uint64, bool) {
	s, ok := m.find(addr, width)
	if !ok {
		return 0, false
	}
	return le.Get(m.bytes(s, addr, width), 0, width)
}

// write writes a number to an address; false, if nothing may be written there.
func (m memory) write(addr, v uint64, width int) bool {
	s, ok := m.find(addr, width)
	if !ok || s.Flags != forWriting {
		return false
	}
	for i, b := range le.Put(v, width) {
		m.written[addr+uint64(i)] = b
	}
	return true
}
