package matching

import (
	"math/rand/v2"
	"testing"

	"benzol/api"
	"benzol/graph"
)

// grown gives the forest of the search that found no longer matching.
func grown(g graph.Graph, n int) forest {
	m := empty(g, n)
	for {
		f := plant(m)
		path, longer := f.grow()
		if !longer {
			return f
		}
		m.flip(path)
	}
}

// drawn: a graph with few edges, so that there are long routes and rings within rings.
func drawn(r *rand.Rand) (graph.Graph, int) {
	n := 1 + r.IntN(api.MaxAtoms)
	var g graph.Graph
	for range r.IntN(2 * n) {
		if a, b := r.IntN(n), r.IntN(n); a != b {
			g.Join(a, b)
		}
	}
	return g, n
}

// pieces tells of each vertex which ones it hangs together with when the barrier is away.
func pieces(f *forest) [api.MaxAtoms]ring {
	var away ring
	for _, v := range f.barrier() {
		away[v] = true
	}
	together := single()
	for range f.n {
		for v := range f.n {
			for w := range f.n {
				if f.Joined(v, w) && !away[v] && !away[w] {
					together[v] = together[v].with(together[w])
				}
			}
		}
	}
	return together
}

// checkRings: when no longer matching is found, each ring that was contracted is a whole piece, and an odd one. A label that went stale, or a ring that was left in two, shows by that.
func checkRings(t *testing.T, f *forest) {
	t.Helper()
	together := pieces(f)
	for v := range f.n {
		size := 0
		for _, in := range f.rings[v] {
			if in {
				size++
			}
		}
		if f.outer[v] && (f.rings[v] != together[v] || size%2 == 0) {
			t.Fatalf("%+v: vertex %d: the ring %v, the piece %v", f.Graph, v, f.rings[v], together[v])
		}
	}
}

// checkRoute: it is simple and leads by a pair and another edge in turns to a root.
func checkRoute(t *testing.T, f *forest, route []int) {
	t.Helper()
	var seen ring
	for i, x := range route {
		if seen[x] {
			t.Fatalf("%+v: the route %v is not simple", f.Graph, route)
		}
		seen[x] = true
		if i == 0 {
			continue
		}
		if before := route[i-1]; !f.Joined(before, x) || (f.mate[before] == x) != (i%2 == 1) {
			t.Fatalf("%+v: the route %v breaks at %d", f.Graph, route, x)
		}
	}
	if f.mate[route[len(route)-1]] != alone {
		t.Fatalf("%+v: the route %v ends at no root", f.Graph, route)
	}
}

func check(t *testing.T, f *forest) {
	t.Helper()
	checkRings(t, f)
	for v := range f.n {
		if f.outer[v] {
			checkRoute(t, f, f.route(v))
		}
	}
}

func TestRingsAndRoutes(t *testing.T) {
	r := rand.New(rand.NewPCG(1, 24))
	for range 3000 {
		f := grown(drawn(r))
		check(t, &f)
	}
}

// TestRingInARing: the triangle 2, 3, 4 hangs on 2 alone; its other vertices have long been looked at when 5, which the great ring turns, closes another ring by 2.
func TestRingInARing(t *testing.T) {
	m := empty(graph.Graph{}, 13)
	for _, p := range []api.Pair{{A: 1, B: 2}, {A: 3, B: 4}, {A: 5, B: 6}, {A: 7, B: 8}, {A: 9, B: 10}, {A: 11, B: 12}} {
		m.Join(p.A, p.B)
		m.flip([]int{p.A, p.B})
	}
	for _, e := range []api.Pair{{A: 0, B: 1}, {A: 2, B: 3}, {A: 2, B: 4}, {A: 0, B: 5}, {A: 6, B: 7}, {A: 0, B: 9}, {A: 10, B: 11}, {A: 8, B: 12}, {A: 2, B: 5}} {
		m.Join(e.A, e.B)
	}
	f := plant(m)
	if path, longer := f.grow(); longer || len(f.barrier()) > 0 {
		t.Fatalf("path %v, barrier %v", path, f.barrier())
	}
	check(t, &f)
}
