// Package graph: vertices by their numbers, and which of them an edge joins.
package graph

import "benzol/api"

// Graph of at most MaxAtoms vertices; its zero value has no edge.
type Graph struct {
	near [api.MaxAtoms]uint32 // of each vertex, a bit for each one that it is joined to
}

// Join lays an edge between two vertices.
func (g *Graph) Join(a, b int) {
	g.near[a] |= 1 << b
	g.near[b] |= 1 << a
}

// Joined tells if there is an edge between two vertices.
func (g *Graph) Joined(a, b int) bool { return g.near[a]>>b&1 == 1 }
