// Package graph: vertices by their numbers, and which of them an edge joins.
package graph

import "benzol/api"

// Graph of at most MaxAtoms vertices; its zero value has no edge.
type Graph struct {
	near [api.MaxAtoms]uint32 // of each vertex, a bit for each one that it is joined to
}

// Of gives the graph of the vertices 0 to n - 1 and these edges, or false if the numbers are none.
func Of(n int, edges []api.Pair) (Graph, bool) {
	var g Graph
	if n < 0 || n > api.MaxAtoms {
		return Graph{}, false
	}
	for _, e := range edges {
		if !below(n, e.A) || !below(n, e.B) || e.A == e.B {
			return Graph{}, false
		}
		g.Join(e.A, e.B)
	}
	return g, true
}

func below(n, vertex int) bool { return 0 <= vertex && vertex < n }

// Join lays an edge between two vertices.
func (g *Graph) Join(a, b int) {
	g.near[a] |= 1 << b
	g.near[b] |= 1 << a
}

// Joined tells if there is an edge between two vertices.
func (g *Graph) Joined(a, b int) bool { return g.near[a]>>b&1 == 1 }
