package matching

import (
	"slices"

	"benzol/api"
)

// forest: what a search for a longer matching has reached. It grows from all vertices without a mate at once, so that a search that finds nothing leaves the whole barrier behind.
type forest struct {
	matching
	rings [api.MaxAtoms]ring
	next  [api.MaxAtoms]int  // where a route goes on that has come to a vertex from its mate
	outer [api.MaxAtoms]bool // has a route to a root: its pair, an edge that is none, and so on by turns
	inner [api.MaxAtoms]bool // reached by an edge that is no pair; outer too as soon as it is in a ring
	queue []int              // outer vertices, in the order in which they became so
}

// plant makes a forest of nothing but roots.
func plant(m matching) forest {
	f := forest{matching: m, rings: single()}
	for v := range m.n {
		if m.mate[v] == alone {
			f.reach(v)
		}
	}
	return f
}

// reach makes a vertex outer.
func (f *forest) reach(v int) {
	f.outer[v] = true
	f.queue = append(f.queue, v)
}

// grow looks at the edges of each outer vertex until one closes a path between two roots, or there are no more.
func (f *forest) grow() ([]int, bool) {
	for i := 0; i < len(f.queue); i++ {
		v := f.queue[i]
		for w := range f.n {
			if !f.Joined(v, w) {
				continue
			}
			if path, longer := f.follow(v, w); longer {
				return path, true
			}
		}
	}
	return nil, false
}

// follow goes along an edge from an outer vertex.
func (f *forest) follow(v, w int) ([]int, bool) {
	switch {
	case !f.outer[w] && !f.inner[w]:
		f.take(v, w)
	case !f.outer[w] || f.rings[v] == f.rings[w]:
	default:
		return f.bridge(v, w)
	}
	return nil, false
}

// take puts a vertex that was not reached yet below an outer one, and its mate below it. It has a mate: those without are roots.
func (f *forest) take(v, w int) {
	f.inner[w] = true
	f.next[w] = v
	f.reach(f.mate[w])
}

// bridge lays an edge between two outer vertices: between two trees it makes a path, within one of them a ring.
func (f *forest) bridge(v, w int) ([]int, bool) {
	left, right := f.route(v), f.route(w)
	if left[len(left)-1] == right[len(right)-1] {
		f.contract(left, right)
		return nil, false
	}
	slices.Reverse(left)
	return append(left, right...), true
}

// route goes from an outer vertex to its root.
func (f *forest) route(v int) []int {
	list := []int{v}
	for f.mate[v] != alone {
		mate := f.mate[v]
		v = f.next[mate]
		list = append(list, mate, v)
	}
	return list
}

// barrier is the inner vertices that no ring took up. Without them each ring of outer ones is an odd piece, and there is one for each of them, which its pair leads to, and one more for each root.
func (f *forest) barrier() []int {
	var list []int
	for v := range f.n {
		if f.inner[v] && !f.outer[v] {
			list = append(list, v)
		}
	}
	return list
}
