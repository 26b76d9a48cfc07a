package fix_test

import (
	"math"
	"testing"

	"fishplate/api"
	"fishplate/fix"
)

// top is the greatest address that may be here.
const top = 4294967295

// The document's example.
func TestExample(t *testing.T) {
	mustValue(t, api.RPC32, 4096, -4, 4100, 4294967288, 0)
}

// P17.1: ordinary values of each Type.
func TestOrdinaryValues(t *testing.T) {
	mustValue(t, api.R64, 4194304, 5, 99, 4194309, 0)
	mustValue(t, api.R64, 5, -6, 99, math.MaxUint64, 0)
	mustValue(t, api.R64, 0, 0, 0, 0, 0)
	mustValue(t, api.R64, top, top, top, 2*top, 0)
	mustValue(t, api.RPC32, 4194304, -4, 4194400, 4294967196, 0)
	mustValue(t, api.RPC32, 4194400, -4, 4194304, 92, 0)
	mustValue(t, api.RPLT32, 4194304, -4, 4194400, 4294967196, 0)
	mustValue(t, api.RPLT32, 4194400, -4, 4194304, 92, 0)
	mustValue(t, api.RPLT32, 7, 0, 7, 0, 0)
	mustValue(t, api.R32, 4194304, 5, 99, 4194309, 0)
	mustValue(t, api.R32, 5, -5, 99, 0, 0)
	mustValue(t, api.R32S, 4194304, 5, 99, 4194309, 0)
	mustValue(t, api.R32S, 5, -6, 99, 4294967295, 0)
	mustValue(t, api.R32S, 5, -5, 99, 0, 0)
}

// P17.1: each sum just at its bounds, and one beyond, by a, by s, and by p.
func TestBounds(t *testing.T) {
	for _, c := range []struct{ typ, least, most int }{
		{api.RPC32, -2147483648, 2147483647}, {api.RPLT32, -2147483648, 2147483647}, {api.R32, 0, 4294967295}, {api.R32S, -2147483648, 2147483647},
	} {
		isByPlace := c.typ == api.RPC32 || c.typ == api.RPLT32
		for _, s := range []int{0, 1, 4194304, 2147483647, 2147483648, top - 1, top} {
			for _, p := range []int{0, 1, 4194304, 2147483647, 2147483648, top - 1, top} {
				base := s
				if isByPlace {
					base = s - p
				}
				mustValue(t, c.typ, s, c.least-base, p, uint64(uint32(c.least)), 0)
				mustValue(t, c.typ, s, c.least-base+1, p, uint64(uint32(c.least+1)), 0)
				mustValue(t, c.typ, s, c.least-base-1, p, 0, api.ErrRange)
				mustValue(t, c.typ, s, c.most-base, p, uint64(uint32(c.most)), 0)
				mustValue(t, c.typ, s, c.most-base-1, p, uint64(uint32(c.most-1)), 0)
				mustValue(t, c.typ, s, c.most-base+1, p, 0, api.ErrRange)
			}
		}
	}
}

// P17.1: the same by s alone, and by p alone.
func TestBoundsByAddresses(t *testing.T) {
	for _, typ := range []int{api.RPC32, api.RPLT32} {
		mustValue(t, typ, 2147483647, 0, 0, 2147483647, 0)
		mustValue(t, typ, 2147483648, 0, 0, 0, api.ErrRange)
		mustValue(t, typ, 2147483648, 0, 1, 2147483647, 0)
		mustValue(t, typ, 0, 0, 2147483648, 2147483648, 0)
		mustValue(t, typ, 0, 0, 2147483649, 0, api.ErrRange)
		mustValue(t, typ, 1, 0, 2147483649, 2147483648, 0)
		mustValue(t, typ, top, 0, top, 0, 0)
		mustValue(t, typ, top, -top, 0, 0, 0)
		mustValue(t, typ, 0, top, top, 0, 0)
		mustValue(t, typ, 0, 0, top, 0, api.ErrRange)
		mustValue(t, typ, top, 0, 0, 0, api.ErrRange)
	}
	mustValue(t, api.R32, top, 0, 0, top, 0)
	mustValue(t, api.R32, top, 1, 0, 0, api.ErrRange)
	mustValue(t, api.R32, 0, -1, 0, 0, api.ErrRange)
	mustValue(t, api.R32S, 2147483647, 0, 0, 2147483647, 0)
	mustValue(t, api.R32S, 2147483648, 0, 0, 0, api.ErrRange)
	mustValue(t, api.R32S, 2147483648, -1, 0, 2147483647, 0)
	mustValue(t, api.R32S, 0, -2147483648, 0, 2147483648, 0)
	mustValue(t, api.R32S, 0, -2147483649, 0, 0, api.ErrRange)
	mustValue(t, api.R32S, 1, -2147483649, 0, 2147483648, 0)
}

// P17.1: sums beyond 2^63, and below -2^63, are of whole numbers: R64 tells them modulo 2^64, the others ErrRange.
func TestGreatSums(t *testing.T) {
	for _, s := range []int{0, 1, 4194304, top} {
		for _, p := range []int{0, 1, 4194304, top} {
			for _, a := range []int{math.MaxInt, math.MaxInt - 1, math.MinInt, math.MinInt + 1, math.MaxInt - top, math.MinInt + top, 1 << 62, -1 << 62, 1 << 33, -1 << 33} {
				mustValue(t, api.R64, s, a, p, uint64(s)+uint64(a), 0)
				for _, typ := range types[1:] {
					mustValue(t, typ, s, a, p, 0, api.ErrRange)
				}
			}
			for _, a := range []int{1 << 32, -1 << 32, 1 << 32 * 3, 1<<32*5 + 7} {
				for _, typ := range types {
					holdValue(t, typ, s, a, p)
				}
			}
		}
	}
}

// P17.1: p counts for nothing in the sums that don't name it.
func TestPlaceThatIsNotAsked(t *testing.T) {
	for _, typ := range []int{api.R64, api.R32, api.R32S} {
		for _, p := range []int{0, 1, 5, 2147483647, 2147483648, top} {
			mustValue(t, typ, 4194304, 9, p, 4194313, 0)
		}
	}
}

// P17.1: what is no relocation's Type.
func TestTypesThatAreNone(t *testing.T) {
	want := map[int]uint64{1: 57, 2: 50, 4: 50, 10: 57, 11: 57}
	for typ := -300; typ < 300; typ++ {
		if v, ok := want[typ]; ok {
			mustValue(t, typ, 50, 7, 7, v, 0)
		} else {
			mustValue(t, typ, 50, 7, 7, 0, api.ErrArg)
			mustValue(t, typ, 0, math.MaxInt, 0, 0, api.ErrArg)
			mustValue(t, typ, -1, 0, -1, 0, api.ErrArg)
		}
	}
	for _, typ := range []int{math.MinInt, math.MaxInt, 1 << 32, 1<<32 + 1, 1<<32 + 2, 1<<16 + 1, 257, -1 << 32} {
		mustValue(t, typ, 50, 7, 7, 0, api.ErrArg)
	}
}

// P17.1: s and p that are no addresses, of each Type, whatever else: ErrArg comes ahead of ErrRange.
func TestAddressesThatAreNone(t *testing.T) {
	wrong := []int{-1, -2, top + 1, top + 2, math.MaxInt, math.MinInt, -top, -1 << 32, 1 << 33, 1 << 62}
	for _, typ := range types {
		for _, a := range []int{0, 5, -5, 1 << 40, -1 << 40, math.MaxInt, math.MinInt} {
			for _, none := range wrong {
				for _, other := range []int{0, 5, top} {
					mustValue(t, typ, none, a, other, 0, api.ErrArg)
					mustValue(t, typ, other, a, none, 0, api.ErrArg)
				}
				mustValue(t, typ, none, a, none, 0, api.ErrArg)
				mustValue(t, typ, none, -none, 0, 0, api.ErrArg)
				mustValue(t, typ, 0, none, none, 0, api.ErrArg)
			}
		}
		mustValue(t, typ, 0, 0, 0, 0, 0)
		mustValue(t, typ, top, -top, 0, 0, 0)
		mustValue(t, typ, 0, 0, -1, 0, api.ErrArg)
		mustValue(t, typ, 0, 0, top+1, 0, api.ErrArg)
	}
}

// P17.1: many values, of numbers near to all bounds.
func TestCountedValues(t *testing.T) {
	near := []int{0, 4194304, 1 << 31, 1 << 32, 1 << 33, 1 << 63 >> 1, math.MaxInt, math.MinInt, -1 << 31, -1 << 32, -1 << 33}
	var c counter
	met := map[api.Code]int{}
	pick := func() int { return near[c.next(len(near))] + c.next(5) - 2 }
	for range 300000 {
		typ := types[c.next(len(types))]
		if c.next(20) == 0 {
			typ = c.next(14) - 1
		}
		s, a, p := pick(), pick(), pick()
		if c.next(4) > 0 {
			s, p = c.next(1<<16)<<16|c.next(1<<16), c.next(1<<16)<<16|c.next(1<<16)
		}
		if c.next(2) == 0 {
			a = (c.next(1<<20) - 1<<19) << 13
		}
		met[holdValue(t, typ, s, a, p)]++
	}
	if min(met[0], met[api.ErrArg], met[api.ErrRange]) < 30000 {
		t.Errorf("met: %v", met)
	}
}

// P17.3: RPC32 moved with what it is by stays.
func TestMovedStays(t *testing.T) {
	for _, typ := range []int{api.RPC32, api.RPLT32} {
		for _, a := range []int{-4, 0, 1 << 20} {
			want, err := fix.Value(typ, 70000, a, 90000)
			for _, by := range []int{1, -70000, 4096, 1 << 31, top - 90000} {
				got, moved := fix.Value(typ, 70000+by, a, 90000+by)
				if err != nil || moved != nil || got != want {
					t.Errorf("moved by %d it is %d, %v; want %d", by, got, moved, want)
				}
			}
		}
	}
	if got, err := fix.Value(api.R32, 70001, -4, 90001); err != nil || got != 69997 {
		t.Errorf("R32 moved is %d, %v", got, err)
	}
}
