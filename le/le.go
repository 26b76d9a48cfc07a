// Package le is layer 1: see shared/doc/01-le.md.
package le

import "bytes"

// Get tells a number: P1.1.
func Get(b []byte, at, n int) (uint64, bool) {
	if !hasAll(b, at, n) {
		return 0, false
	}
	var v uint64
	for i := n - 1; i >= 0; i-- {
		v = v<<8 | uint64(b[at+i])
	}
	return v, true
}

// Put tells a number's bytes: P1.1.
func Put(v uint64, n int) []byte {
	if !isWidth(n) {
		return nil
	}
	b := make([]byte, n)
	for i := range b {
		b[i] = byte(v >> (8 * i))
	}
	return b
}

// Lay tells b with a number in it: P1.1.
func Lay(b []byte, at, n int, v uint64) []byte {
	laid := bytes.Clone(b)
	if hasAll(b, at, n) {
		copy(laid[at:], Put(v, n))
	}
	return laid
}

// isWidth tells whether n is how many bytes a number may have.
func isWidth(n int) bool {
	switch n {
	case 1, 2, 4, 8:
		return true
	}
	return false
}

// hasAll tells whether n may be, and b has all n bytes from at on.
// It takes n from len(b), as at + n would wrap round near the greatest number.
func hasAll(b []byte, at, n int) bool {
	return isWidth(n) && at >= 0 && at <= len(b)-n
}
