package fix_test

import (
	"bytes"
	"errors"
	"math/big"
	"slices"
	"testing"

	"fishplate/api"
	"fishplate/fix"
)

// types are all of relocations.
var types = []int{api.R64, api.RPC32, api.RPLT32, api.R32, api.R32S}

// width tells of how many bytes a relocation is; 0: it is none.
func width(t int) int {
	switch t {
	case 1:
		return 8
	case 2, 4, 10, 11:
		return 4
	}
	return 0
}

// isCode tells whether an error is a Code itself; 0: whether it is none.
func isCode(err error, code api.Code) bool {
	if code == 0 {
		return err == nil
	}
	if err != code || !errors.Is(err, code) {
		return false
	}
	for other := api.ErrArg; other <= api.ErrLarge; other++ {
		if other != code && errors.Is(err, other) {
			return false
		}
	}
	return true
}

// number tells a number of any size.
func number(n int) *big.Int { return big.NewInt(int64(n)) }

// isBetween tells whether a number is from one to another one.
func isBetween(n *big.Int, least, most int) bool {
	return n.Cmp(number(least)) >= 0 && n.Cmp(number(most)) <= 0
}

// plainValue tells a relocation's value by the chapter's words, with numbers of any size.
func plainValue(t int, s, a, p *big.Int) (uint64, api.Code) {
	if width(t) == 0 || !isBetween(s, 0, 4294967295) || !isBetween(p, 0, 4294967295) {
		return 0, api.ErrArg
	}
	sum := new(big.Int).Add(s, a)
	least, most := -2147483648, 2147483647
	switch t {
	case api.RPC32, api.RPLT32:
		sum.Sub(sum, p)
	case api.R32:
		least, most = 0, 4294967295
	}
	bits := uint(8 * width(t))
	if t != api.R64 && !isBetween(sum, least, most) {
		return 0, api.ErrRange
	}
	return new(big.Int).Mod(sum, new(big.Int).Lsh(big.NewInt(1), bits)).Uint64(), 0
}

// mustValue holds a value, or an error, asked twice, against what it should be, and against the plain reading.
func mustValue(t *testing.T, typ, s, a, p int, want uint64, code api.Code) {
	t.Helper()
	for range 2 {
		if got, err := fix.Value(typ, s, a, p); got != want || !isCode(err, code) {
			t.Errorf("Value(%d, %d, %d, %d) = %d, %v; want %d, %v", typ, s, a, p, got, err, want, code)
		}
	}
	if got, plain := plainValue(typ, number(s), number(a), number(p)); got != want || plain != code {
		t.Errorf("the plain reading of %d, %d, %d, %d tells %d, %v; want %d, %v", typ, s, a, p, got, plain, want, code)
	}
}

// holdValue holds a value against the plain reading, and tells its error.
func holdValue(t *testing.T, typ, s, a, p int) api.Code {
	t.Helper()
	got, err := fix.Value(typ, s, a, p)
	want, code := plainValue(typ, number(s), number(a), number(p))
	if got != want || !isCode(err, code) {
		t.Fatalf("Value(%d, %d, %d, %d) = %d, %v; want %d, %v", typ, s, a, p, got, err, want, code)
	}
	return code
}

// node tells a node of some bytes and edges.
func node(b string, edges ...api.Edge) api.Node {
	return api.Node{Type: api.ProgBits, Flags: api.Alloc | api.Write, Align: 1, Size: len(b), Data: []byte(b), Edges: edges}
}

// plainData tells a node's bytes by the chapter's words, with sums of any size.
func plainData(n api.Node, at int, addr []int) ([]byte, api.Code) {
	b := slices.Clone(n.Data)
	for _, e := range n.Edges {
		s := number(e.At)
		if e.To != -1 {
			s.Add(s, number(addr[e.To]))
		}
		v, code := plainValue(e.Type, s, number(e.Add), new(big.Int).Add(number(at), number(e.Off)))
		if code != 0 {
			return nil, code
		}
		for i := range width(e.Type) {
			b[e.Off+i] = byte(v >> (8 * i))
		}
	}
	return b, 0
}

// mustData holds a node's bytes, or an error, asked twice, against what they should be, and against the plain reading.
func mustData(t *testing.T, n api.Node, at int, addr []int, want string, code api.Code) {
	t.Helper()
	for range 2 {
		if got, err := fix.Data(n, at, addr); string(got) != want || !isCode(err, code) {
			t.Errorf("Data(%+v, %d, %v) = %v, %v; want %v, %v", n, at, addr, got, err, []byte(want), code)
		}
	}
	if got, plain := plainData(n, at, addr); string(got) != want || plain != code {
		t.Errorf("the plain reading of %+v, %d, %v tells %v, %v; want %v, %v", n, at, addr, got, plain, []byte(want), code)
	}
}

// holdData holds a node's bytes against the plain reading, and P17.3: what is outside of edges stays. It tells the error.
func holdData(t *testing.T, n api.Node, at int, addr []int) api.Code {
	t.Helper()
	got, err := fix.Data(n, at, addr)
	want, code := plainData(n, at, addr)
	if !bytes.Equal(got, want) || !isCode(err, code) {
		t.Fatalf("Data(%+v, %d, %v) = %v, %v; want %v, %v", n, at, addr, got, err, want, code)
	}
	if code != 0 {
		return code
	}
	inEdge := make([]bool, len(n.Data))
	for _, e := range n.Edges {
		for i := range width(e.Type) {
			inEdge[e.Off+i] = true
		}
	}
	for i, b := range n.Data {
		if !inEdge[i] && got[i] != b {
			t.Fatalf("Data(%+v, %d, %v) = %v: byte %d didn't stay", n, at, addr, got, i)
		}
	}
	return 0
}

// counter counts on, by a fixed rule, and tells numbers below another one by where it is.
type counter uint64

func (c *counter) next(below int) int {
	*c = *c*6364136223846793005 + 1442695040888963407
	return int(*c>>33) % below
}
