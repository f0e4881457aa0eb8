// Package matching: greatest matchings of a graph, and numbers that show that there is none greater.
package matching

import (
	"benzol/api"
	"benzol/graph"
)

// alone stands for the mate of a vertex that has none.
const alone = -1

// matching of the vertices 0 to n - 1 of a graph.
type matching struct {
	graph.Graph
	n    int
	mate [api.MaxAtoms]int
}

// Greatest gives the pairs of a greatest matching of the vertices 0 to n - 1, by rising A, and the numbers without which the graph falls into too many odd pieces for a greater one.
func Greatest(g graph.Graph, n int) ([]api.Pair, []int) {
	m := empty(g, n)
	for {
		f := plant(m)
		path, longer := f.grow()
		if !longer {
			return m.pairs(), f.barrier()
		}
		m.flip(path)
	}
}

func empty(g graph.Graph, n int) matching {
	m := matching{Graph: g, n: n}
	for v := range m.mate {
		m.mate[v] = alone
	}
	return m
}

// flip pairs the vertices of a path by twos. Its ends had no mate and every second edge was a pair, so there is one pair more.
func (m *matching) flip(path []int) {
	for i := 0; i+1 < len(path); i += 2 {
		a, b := path[i], path[i+1]
		m.mate[a], m.mate[b] = b, a
	}
}

func (m *matching) pairs() []api.Pair {
	var list []api.Pair
	for v := range m.n {
		if m.mate[v] > v {
			list = append(list, api.Pair{A: v, B: m.mate[v]})
		}
	}
	return list
}
