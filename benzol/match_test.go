package benzol

import (
	"math"
	"math/rand/v2"
	"slices"
	"sync"
	"testing"

	"benzol/api"
)

// edgeList: two numbers an edge.
func edgeList(numbers ...int) []api.Pair {
	var list []api.Pair
	for i := 0; i < len(numbers); i += 2 {
		list = append(list, api.Pair{A: numbers[i], B: numbers[i+1]})
	}
	return list
}

// cycle: a ring of the vertices first to first + size - 1.
func cycle(first, size int) []api.Pair {
	var list []api.Pair
	for i := range size {
		list = append(list, api.Pair{A: first + i, B: first + (i+1)%size})
	}
	return list
}

// all: every edge of n vertices.
func all(n int) []api.Pair {
	var list []api.Pair
	for b := range n {
		for a := range b {
			list = append(list, api.Pair{A: a, B: b})
		}
	}
	return list
}

// brute: the number of pairs of a greatest matching, by trying each mate of the least vertex that is left.
func brute(near []uint32, left uint32) int {
	if left == 0 {
		return 0
	}
	v := 0
	for left>>v&1 == 0 {
		v++
	}
	left &^= 1 << v
	best := brute(near, left)
	for w := range near {
		if near[v]&left>>w&1 == 1 {
			best = max(best, 1+brute(near, left&^(1<<w)))
		}
	}
	return best
}

// oddPieces: how many pieces have an odd number of vertices without those of u; by merging names, not by walking.
func oddPieces(n int, edges []api.Pair, u []int) int {
	name := make([]int, n)
	for v := range name {
		name[v] = v
	}
	for _, e := range edges {
		if slices.Contains(u, e.A) || slices.Contains(u, e.B) {
			continue
		}
		from, to := name[e.A], name[e.B]
		for v := range name {
			if name[v] == from {
				name[v] = to
			}
		}
	}
	size := make([]int, n)
	for v := range name {
		if !slices.Contains(u, v) {
			size[name[v]]++
		}
	}
	odd := 0
	for _, s := range size {
		odd += s % 2
	}
	return odd
}

// flaw tells what is wrong with pairs and u as an answer of P5, or nothing. As no matching has more pairs than some u allows, an answer without a flaw is a greatest one.
func flaw(n int, edges, pairs []api.Pair, u []int) string {
	used := make([]bool, n)
	for i, p := range pairs {
		switch {
		case p.A >= p.B:
			return "A is not less than B"
		case i > 0 && pairs[i-1].A >= p.A:
			return "A does not rise"
		case !slices.Contains(edges, p) && !slices.Contains(edges, api.Pair{A: p.B, B: p.A}):
			return "a pair is no edge"
		case used[p.A] || used[p.B]:
			return "two pairs have a number in common"
		}
		used[p.A], used[p.B] = true, true
	}
	for i, v := range u {
		if v < 0 || v >= n || i > 0 && u[i-1] >= v {
			return "U is not rising numbers of the graph"
		}
	}
	if oddPieces(n, edges, u)-len(u) != n-2*len(pairs) {
		return "U does not show that there are no more pairs"
	}
	return ""
}

// match asks Match and holds what it answers against P5; it gives the number of pairs.
func match(t *testing.T, n int, edges []api.Pair) int {
	t.Helper()
	pairs, u, errno := Match(n, edges)
	if errno != api.OK {
		t.Fatalf("P5: Match(%d, %v) = %d", n, edges, errno)
	}
	if f := flaw(n, edges, pairs, u); f != "" {
		t.Fatalf("P5: Match(%d, %v) = %v, %v: %s", n, edges, pairs, u, f)
	}
	return len(pairs)
}

func TestMatchOfKnownGraphs(t *testing.T) {
	for name, c := range map[string]struct {
		n     int
		edges []api.Pair
		want  int
	}{
		"nothing":                     {0, nil, 0},
		"nothing, with an empty list": {0, []api.Pair{}, 0},
		"one vertex":                  {1, nil, 0},
		"most vertices, no edge":      {24, nil, 0},
		"most vertices, each edge":    {24, all(24), 12},
		"an odd number, each edge":    {23, all(23), 11},
		"the last two":                {24, edgeList(22, 23), 1},
		"the wrong way round":         {2, edgeList(1, 0), 1},
		"one edge four times":         {3, edgeList(1, 2, 2, 1, 1, 2, 2, 1), 1},
		"a row":                       {4, edgeList(0, 1, 1, 2, 2, 3), 2},
		"a row, its middle first":     {4, edgeList(1, 2, 0, 1, 2, 3), 2},
		"a ring of five":              {5, cycle(0, 5), 2},
		"a ring of 22 and a vertex":   {23, cycle(1, 22), 11},
		"a ring of 23 and a vertex":   {24, cycle(0, 23), 11},
		"a ring of 24":                {24, cycle(0, 24), 12},
		"eight triangles":             {24, slices.Concat(cycle(0, 3), cycle(3, 3), cycle(6, 3), cycle(9, 3), cycle(12, 3), cycle(15, 3), cycle(18, 3), cycle(21, 3)), 8},
		"two triangles and a bridge":  {6, slices.Concat(cycle(0, 3), cycle(3, 3), edgeList(2, 5)), 3},
		"a ring of five on a stem":    {8, slices.Concat(cycle(0, 5), edgeList(5, 6, 6, 7, 7, 2)), 4},
		"three triangles on a vertex": {10, slices.Concat(cycle(0, 3), cycle(3, 3), cycle(6, 3), edgeList(9, 0, 9, 3, 9, 6)), 4},
		"a star":                      {24, edgeList(5, 0, 5, 1, 5, 2, 5, 3, 5, 4, 5, 6, 5, 23), 1},
		"two stars, their hubs bound": {8, edgeList(0, 1, 0, 2, 0, 3, 4, 5, 4, 6, 4, 7, 0, 4), 2},
		"Petersen's":                  {10, slices.Concat(cycle(0, 5), edgeList(5, 7, 7, 9, 9, 6, 6, 8, 8, 5, 0, 5, 1, 6, 2, 7, 3, 8, 4, 9)), 5},
	} {
		if got := match(t, c.n, c.edges); got != c.want {
			t.Errorf("P5: %s: %d pairs, want %d", name, got, c.want)
		}
	}
}

func TestMatchExamples(t *testing.T) {
	pairs, u, errno := Match(3, edgeList(0, 1, 1, 2, 2, 0))
	if len(pairs) != 1 || len(u) != 0 || errno != api.OK {
		t.Errorf("P5: a triangle: %v, %v, %d", pairs, u, errno)
	}
	pairs, u, errno = Match(4, edgeList(0, 1, 0, 2, 0, 3))
	if len(pairs) != 1 || !slices.Equal(u, []int{0}) || errno != api.OK {
		t.Errorf("P5: a star: %v, %v, %d", pairs, u, errno)
	}
}

// TestMatchRefuses puts each fault alone, and first, in the middle and last among good edges.
func TestMatchRefuses(t *testing.T) {
	refused := func(n int, edges []api.Pair) {
		t.Helper()
		if pairs, u, errno := Match(n, edges); errno != api.ErrGraph || len(pairs) > 0 || len(u) > 0 {
			t.Errorf("P5: Match(%d, %v) = %v, %v, %d, want ErrGraph and nothing", n, edges, pairs, u, errno)
		}
	}
	for _, n := range []int{-1, 25, 26, 32, 64, -24, math.MaxInt, math.MinInt, 1 << 32, 1<<32 + 3, 1 << 62} {
		refused(n, nil)
		refused(n, edgeList(0, 1))
	}
	for n := range api.MaxAtoms + 1 {
		for _, bad := range []int{-1, n, n + 1, 24, 25, 32, 64, 1 << 32, 1 << 62, math.MaxInt, math.MinInt, -1 << 32} {
			if 0 <= bad && bad < n {
				continue
			}
			for good := range n {
				refused(n, edgeList(good, bad))
				refused(n, edgeList(bad, good))
			}
			refused(n, edgeList(bad, bad))
			refused(n, edgeList(bad, bad+1))
		}
		for v := range n {
			refused(n, edgeList(v, v))
		}
	}
	good := edgeList(0, 1, 1, 2)
	for _, bad := range [][]api.Pair{edgeList(0, 3), edgeList(3, 0), edgeList(-1, 2), edgeList(2, -1), edgeList(1, 1)} {
		refused(3, slices.Concat(bad, good))
		refused(3, slices.Concat(good[:1], bad, good[1:]))
		refused(3, slices.Concat(good, bad))
	}
}

func TestMatchOfEverySmallGraph(t *testing.T) {
	for n := range 7 {
		edges := all(n)
		for chosen := range 1 << len(edges) {
			var list []api.Pair
			near := make([]uint32, n)
			for i, e := range edges {
				if chosen>>i&1 == 1 {
					list = append(list, e)
					near[e.A] |= 1 << e.B
					near[e.B] |= 1 << e.A
				}
			}
			want := brute(near, 1<<n-1)
			if got := match(t, n, list); got != want {
				t.Fatalf("P5: Match(%d, %v): %d pairs, want %d", n, list, got, want)
			}
		}
	}
}

// scattered gives the vertices of a graph other numbers, and its edges another order, way round and now and then a second time.
func scattered(r *rand.Rand, n int, edges []api.Pair) []api.Pair {
	number := r.Perm(n)
	var list []api.Pair
	for _, i := range r.Perm(len(edges)) {
		e := api.Pair{A: number[edges[i].A], B: number[edges[i].B]}
		if r.IntN(2) == 0 {
			e.A, e.B = e.B, e.A
		}
		list = append(list, e)
		if r.IntN(8) == 0 {
			list = append(list, api.Pair{A: e.B, B: e.A})
		}
	}
	return list
}

// nested: odd rings within odd rings: each two vertices more make, by ends anywhere in what is there, another odd ring or a row that hangs out.
func nested(r *rand.Rand, n int) []api.Pair {
	list := cycle(0, 3)
	for v := 3; v < n; v++ {
		if v+1 < n && r.IntN(4) > 0 {
			list = append(list, edgeList(r.IntN(v), v, v, v+1, v+1, r.IntN(v))...)
			v++
		} else {
			list = append(list, edgeList(r.IntN(v), v)...)
		}
	}
	return list
}

// drawn: each edge of n vertices with the same chance.
func drawn(r *rand.Rand, n int) []api.Pair {
	chance := r.IntN(2*n) + 1
	var list []api.Pair
	for _, e := range all(n) {
		if r.IntN(n*n) < chance {
			list = append(list, e)
		}
	}
	return list
}

func TestMatchOfMadeGraphs(t *testing.T) {
	r := rand.New(rand.NewPCG(5, 24))
	for range 6000 {
		n := 3 + r.IntN(api.MaxAtoms-2)
		match(t, n, scattered(r, n, nested(r, n)))
		match(t, n, scattered(r, n, drawn(r, n)))
	}
}

// TestMatchFindsAHiddenMatching: graphs in which each vertex has a mate, laid among rings and rows that lead astray.
func TestMatchFindsAHiddenMatching(t *testing.T) {
	r := rand.New(rand.NewPCG(24, 5))
	for range 4000 {
		n := 4 + 2*r.IntN(api.MaxAtoms/2-1)
		list := nested(r, n)
		for v := 0; v < n; v += 2 {
			list = append(list, edgeList(v, v+1)...)
		}
		list = scattered(r, n, list)
		if got := match(t, n, list); got != n/2 {
			t.Fatalf("P5: Match(%d, %v): %d pairs, want %d", n, list, got, n/2)
		}
	}
}

// sample: a graph with pairs, numbers in U and a list with room to spare.
func sample() (int, []api.Pair) {
	edges := slices.Concat(cycle(0, 5), edgeList(5, 2, 6, 5, 5, 7, 7, 5, 8, 5, 9, 8, 9, 10))
	return 12, append(make([]api.Pair, 0, 2*len(edges)), edges...)
}

func TestMatchLeavesItsArguments(t *testing.T) {
	n, edges := sample()
	spare := edges[len(edges):cap(edges)]
	for i := range spare {
		spare[i] = api.Pair{A: 3 + i, B: -7}
	}
	before := slices.Clone(edges[:cap(edges)])
	_, _, _ = Match(n, edges)
	_, _, _ = Match(3, edges)
	if !slices.Equal(before, edges[:cap(edges)]) {
		t.Errorf("P2: Match wrote into what it was handed: %v", edges[:cap(edges)])
	}
}

func TestMatchAnswersAreApart(t *testing.T) {
	n, edges := sample()
	pairs, u, _ := Match(n, edges)
	if len(pairs) == 0 || len(u) == 0 {
		t.Fatalf("P5: %v, %v", pairs, u)
	}
	wantPairs, wantU := slices.Clone(pairs), slices.Clone(u)
	for range 3 {
		morePairs, moreU, _ := Match(n, edges)
		if !slices.Equal(morePairs, wantPairs) || !slices.Equal(moreU, wantU) {
			t.Errorf("P2: first %v, %v, then %v, %v", wantPairs, wantU, morePairs, moreU)
		}
		clear(morePairs[:cap(morePairs)])
		clear(moreU[:cap(moreU)])
		_, _, _ = Match(4, edgeList(0, 1, 2, 3))
		if !slices.Equal(pairs, wantPairs) || !slices.Equal(u, wantU) {
			t.Fatalf("P2: an answer changed: %v, %v", pairs, u)
		}
	}
}

func TestMatchIsNotKept(t *testing.T) {
	n, edges := sample()
	pairs, u, _ := Match(n, edges)
	wantPairs, wantU := slices.Clone(pairs), slices.Clone(u)
	clear(edges[:cap(edges)])
	if !slices.Equal(pairs, wantPairs) || !slices.Equal(u, wantU) {
		t.Errorf("P2: an answer lies in what was handed in: %v, %v", pairs, u)
	}
}

func TestMatchAtTheSameTime(t *testing.T) {
	n, edges := sample()
	wantPairs, wantU, _ := Match(n, edges)
	var callers sync.WaitGroup
	for range 8 {
		callers.Go(func() {
			for range 50 {
				pairs, u, errno := Match(n, edges)
				if errno != api.OK || !slices.Equal(pairs, wantPairs) || !slices.Equal(u, wantU) {
					t.Errorf("P2: %v, %v, %d, want %v, %v", pairs, u, errno, wantPairs, wantU)
				}
			}
		})
	}
	callers.Wait()
}

// FuzzMatch: the first byte is n, each two others are an edge.
func FuzzMatch(f *testing.F) {
	f.Add([]byte("\x03\x00\x01\x01\x02\x02\x00"))
	f.Add([]byte("\x04\x00\x01\x00\x02\x00\x03"))
	f.Add([]byte("\x18\x17\x18"))
	f.Fuzz(func(t *testing.T, data []byte) {
		if len(data) == 0 {
			return
		}
		n := int(int8(data[0]))
		wrong := n < 0 || n > api.MaxAtoms
		var edges []api.Pair
		for i := 1; i+1 < len(data); i += 2 {
			a, b := int(int8(data[i])), int(int8(data[i+1]))
			edges = append(edges, api.Pair{A: a, B: b})
			wrong = wrong || min(a, b) < 0 || max(a, b) >= n || a == b
		}
		if !wrong {
			match(t, n, edges)
		} else if pairs, u, errno := Match(n, edges); errno != api.ErrGraph || len(pairs) > 0 || len(u) > 0 {
			t.Errorf("P5: Match(%d, %v) = %v, %v, %d, want ErrGraph", n, edges, pairs, u, errno)
		}
	})
}
