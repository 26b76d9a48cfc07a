package fold

import (
	"cmp"
	"maps"
	"slices"
)

// classes are classes of nodes that are split till those of one are alike for good.
type classes struct {
	folder
	members [][]int // of each class
	class   []int   // of each eligible node
	place   []int   // of each eligible node, among its class's members
	callers [][]int // of each node, the eligible ones of which an edge goes to it
}

// facesByClasses tells each node's face, where no eligible node shares its Spot.
func (f folder) facesByClasses() []int {
	c := f.newClasses()
	// Whose edges go to a node that got another class may have to be split from the rest of its own.
	asked := slices.Concat(c.members...)
	for len(asked) > 0 {
		asked = c.callersOf(c.splitAll(asked))
	}
	faces := make([]int, len(f.nodes))
	first := map[int]int{}
	for i := range faces {
		faces[i] = i
		if !f.eligible[i] {
			continue
		}
		if _, ok := first[c.class[i]]; !ok {
			first[c.class[i]] = i
		}
		faces[i] = first[c.class[i]]
	}
	return faces
}

// newClasses tells classes of nodes that are alike but for which eligible nodes their edges go to.
func (f folder) newClasses() *classes {
	many := len(f.nodes)
	c := &classes{folder: f, class: make([]int, many), place: make([]int, many), callers: make([][]int, many)}
	known := map[string]int{}
	for i, n := range f.nodes {
		if !f.eligible[i] {
			continue
		}
		l := f.fixedTargets(i) + look(n)
		class, ok := known[l]
		if !ok {
			class = len(c.members)
			known[l] = class
			c.members = append(c.members, nil)
		}
		c.put(i, class)
		for _, e := range n.Edges {
			if e.To >= 0 {
				c.callers[e.To] = append(c.callers[e.To], i)
			}
		}
	}
	return c
}

// fixedTargets tells the Spots of all nodes that aren't eligible to which a node's edges go.
func (f folder) fixedTargets(i int) string {
	var b []byte
	for k, e := range f.nodes[i].Edges {
		if e.To >= 0 && !f.eligible[e.To] {
			s := f.spots[e.To]
			b = appendNumber(appendNumber(appendNumber(b, k), s.Node), s.At)
		}
	}
	return string(append(b, '.'))
}

// targets tells the classes of all eligible nodes to which a node's edges go.
func (c *classes) targets(i int) string {
	var b []byte
	for _, e := range c.nodes[i].Edges {
		if e.To >= 0 && c.eligible[e.To] {
			b = appendNumber(b, c.class[e.To])
		}
	}
	return string(b)
}

// put puts a node that is in no class into one.
func (c *classes) put(i, class int) {
	c.class[i], c.place[i] = class, len(c.members[class])
	c.members[class] = append(c.members[class], i)
}

// move moves a node to another class.
func (c *classes) move(i, class int) {
	l := c.members[c.class[i]]
	last := l[len(l)-1]
	l[c.place[i]], c.place[last] = last, c.place[i]
	c.members[c.class[i]] = l[:len(l)-1]
	c.put(i, class)
}

// splitAll splits the classes of nodes that are asked of, and tells which nodes got another class.
func (c *classes) splitAll(asked []int) []int {
	of := map[int][]int{}
	for _, i := range asked {
		of[c.class[i]] = append(of[c.class[i]], i)
	}
	var moved []int
	for _, class := range slices.Sorted(maps.Keys(of)) {
		moved = append(moved, c.split(class, of[class])...)
	}
	return moved
}

// split splits a class, of which some members are asked of, and tells which nodes got another class.
// The largest part stays, so that a node is moved, and its callers are asked of again, but a few times.
func (c *classes) split(class int, asked []int) []int {
	parts := c.partsOf(asked)
	last := len(parts) - 1
	if len(parts[last]) > len(c.members[class])-len(asked) {
		parts[last] = c.rest(class, asked)
	}
	var moved []int
	for _, part := range parts {
		if len(part) == 0 {
			continue
		}
		c.members = append(c.members, nil)
		for _, i := range part {
			c.move(i, len(c.members)-1)
		}
		moved = append(moved, part...)
	}
	return moved
}

// partsOf tells nodes by which classes their edges go to, the most of them last.
func (c *classes) partsOf(nodes []int) [][]int {
	by := map[string][]int{}
	for _, i := range nodes {
		t := c.targets(i)
		by[t] = append(by[t], i)
	}
	var parts [][]int
	for _, t := range slices.Sorted(maps.Keys(by)) {
		parts = append(parts, by[t])
	}
	slices.SortStableFunc(parts, func(a, b []int) int { return cmp.Compare(len(a), len(b)) })
	return parts
}

// rest tells the members of a class of which isn't asked: none of their edges goes to a node that was moved,
// so that they go to one and the same classes, from which those of who is asked were moved away.
func (c *classes) rest(class int, asked []int) []int {
	isAsked := map[int]bool{}
	for _, i := range asked {
		isAsked[i] = true
	}
	var l []int
	for _, i := range c.members[class] {
		if !isAsked[i] {
			l = append(l, i)
		}
	}
	return l
}

// callersOf tells all eligible nodes of which an edge goes to one of some nodes.
func (c *classes) callersOf(nodes []int) []int {
	callers := map[int]bool{}
	for _, i := range nodes {
		for _, k := range c.callers[i] {
			callers[k] = true
		}
	}
	return slices.Sorted(maps.Keys(callers))
}
