package matching

import (
	"slices"

	"benzol/api"
)

// ring: which vertices are contracted with one another. Each of them is labelled with a copy of the whole ring, so two vertices are in one ring just if their labels are equal.
type ring [api.MaxAtoms]bool

// single labels each vertex as a ring of its own.
func single() [api.MaxAtoms]ring {
	var rings [api.MaxAtoms]ring
	for v := range rings {
		rings[v][v] = true
	}
	return rings
}

// with gives a ring that has the vertices of another too.
func (r ring) with(other ring) ring {
	for v, in := range other {
		r[v] = r[v] || in
	}
	return r
}

// contract makes one ring of two routes up to where they meet, and of the edge between their first vertices.
func (f *forest) contract(left, right []int) {
	v, w := left[0], right[0]
	top := f.meeting(left, right)
	left, right = f.below(top, left), f.below(top, right)
	whole := top
	for _, x := range slices.Concat(left, right) {
		whole = whole.with(f.rings[x])
	}
	f.turn(left, w)
	f.turn(right, v)
	f.label(whole)
}

// meeting finds the first ring on a route that the other one passes too; at the latest that is their root's.
func (f *forest) meeting(route, other []int) ring {
	for _, x := range route {
		for _, y := range other {
			if f.rings[x] == f.rings[y] {
				return f.rings[x]
			}
		}
	}
	return ring{}
}

// below is the part of a route ahead of a ring. What lies in that ring has its routes already, and they must not be turned again.
func (f *forest) below(top ring, route []int) []int {
	for i, x := range route {
		if f.rings[x] == top {
			return route[:i]
		}
	}
	return route
}

// turn lets routes that come to one side of a ring from a mate go back down that side, and over the edge that closes the ring to the vertex beyond it.
func (f *forest) turn(side []int, beyond int) {
	for i := 0; i+1 < len(side); i += 2 {
		f.next[side[i]] = beyond
		beyond = side[i+1]
	}
}

// label gives each vertex of a ring its copy, and makes those outer that were not: the other way round the ring, their pair comes first.
func (f *forest) label(whole ring) {
	for x, in := range whole {
		if !in {
			continue
		}
		f.rings[x] = whole
		if !f.outer[x] {
			f.reach(x)
		}
	}
}
