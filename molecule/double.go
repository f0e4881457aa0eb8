package molecule

import (
	"slices"

	"benzol/api"
	"benzol/graph"
)

// Candidates gives the graph of the aromatic bonds between candidates, and how many candidates there are. All other atoms are vertices without an edge there.
func (m *Molecule) Candidates() (graph.Graph, int) {
	var g graph.Graph
	for _, b := range m.Bonds {
		if b.Order == Aromatic && m.candidate(b.A) && m.candidate(b.B) {
			g.Join(b.A, b.B)
		}
	}
	count := 0
	for i := range m.Atoms {
		if m.candidate(i) {
			count++
		}
	}
	return g, count
}

// Doubled gives the orders of all bonds when of the aromatic ones these pairs are double and the others single.
func (m *Molecule) Doubled(pairs []api.Pair) []int {
	orders := make([]int, len(m.Bonds))
	for i, b := range m.Bonds {
		switch {
		case b.Order != Aromatic:
			orders[i] = b.Order
		case slices.Contains(pairs, api.Pair{A: b.A, B: b.B}):
			orders[i] = Double
		default:
			orders[i] = Single
		}
	}
	return orders
}
