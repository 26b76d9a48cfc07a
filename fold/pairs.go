package fold

// pair is two eligible nodes that are alike at once.
type pair struct{ a, b int }

// facesByPairs tells each node's face by taking all pairs. It is for graphs in which eligible nodes share Spots:
// there one node can be alike two others for good that aren't alike, so that there are no classes.
func (f folder) facesByPairs() []int {
	faces := make([]int, len(f.nodes))
	for i := range faces {
		faces[i] = i
	}
	for p := range f.relatedPairs() {
		faces[p.a] = min(faces[p.a], p.b)
	}
	return faces
}

// relatedPairs tells the greatest relation: pairs are left out till none has to be any more.
func (f folder) relatedPairs() map[pair]bool {
	related := f.pairsAtOnce()
	for before := -1; before != len(related); {
		before = len(related)
		for p := range related {
			if !f.edgesHold(p, related) {
				delete(related, p)
			}
		}
	}
	return related
}

// pairsAtOnce tells all pairs of eligible nodes that are alike at once, either way.
func (f folder) pairsAtOnce() map[pair]bool {
	alike := map[string][]int{}
	pairs := map[pair]bool{}
	for i, n := range f.nodes {
		if !f.eligible[i] {
			continue
		}
		l := look(n)
		alike[l] = append(alike[l], i)
		for _, k := range alike[l] {
			pairs[pair{i, k}], pairs[pair{k, i}] = true, true
		}
	}
	return pairs
}

// edgesHold tells whether the edges of both nodes go, one by one, to one Spot, or to nodes that are related.
func (f folder) edgesHold(p pair, related map[pair]bool) bool {
	others := f.nodes[p.b].Edges
	for k, e := range f.nodes[p.a].Edges {
		if e.To < 0 || f.spots[e.To] == f.spots[others[k].To] {
			continue
		}
		if !related[pair{e.To, others[k].To}] {
			return false
		}
	}
	return true
}
