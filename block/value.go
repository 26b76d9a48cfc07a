package block

// number tells a value that is a number.
func number(n uint64) Val { return Val{N: n} }

// place tells a value that is a place.
func place(node int, n uint64) Val { return Val{Ptr: true, Node: node, N: n} }

// is tells whether a value is one number.
func (v Val) is(n uint64) bool { return !v.Ptr && v.N == n }

// sum tells the sum of two values, if there is one.
func sum(a, b Val) (Val, bool) {
	switch {
	case a.Ptr && b.Ptr:
		return Val{}, false
	case b.Ptr:
		return place(b.Node, a.N+b.N), true
	}
	a.N += b.N
	return a, true
}

// difference tells one value less another one, if there is a difference.
func difference(a, b Val) (Val, bool) {
	switch {
	case !b.Ptr:
		a.N -= b.N
		return a, true
	case a.Ptr && a.Node == b.Node:
		return number(a.N - b.N), true
	}
	return Val{}, false
}

// areComparable tells whether both are numbers, or places of one node.
func areComparable(a, b Val) bool {
	return a.Ptr == b.Ptr && (!a.Ptr || a.Node == b.Node)
}
