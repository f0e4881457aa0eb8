// Package benzol: rings that are written in small letters, with their double bonds set: see DOC.md.
package benzol

import (
	"benzol/api"
	"benzol/graph"
	"benzol/matching"
	"benzol/molecule"
	"benzol/reader"
	"benzol/writer"
)

// Parse reads a molecule (P3, P4).
func Parse(text string) (api.Molecule, api.Errno, int) {
	m, errno, place := reader.Read(text)
	if errno != api.OK {
		return api.Molecule{}, errno, place
	}
	return m.Plain(), api.OK, 0
}

// Match finds a greatest matching (P5).
func Match(n int, edges []api.Pair) ([]api.Pair, []int, api.Errno) {
	g, ok := graph.Of(n, edges)
	if !ok {
		return nil, nil, api.ErrGraph
	}
	pairs, u := matching.Greatest(g, n)
	return pairs, u, api.OK
}

// Kekulize sets the double bonds (P6).
func Kekulize(text string) (api.Result, api.Errno, int) {
	m, errno, place := reader.Read(text)
	if errno != api.OK {
		return api.Result{}, errno, place
	}
	g, candidates := m.Candidates()
	pairs, u := matching.Greatest(g, len(m.Atoms))
	if 2*len(pairs) < candidates {
		return api.Result{Verdict: api.Barred, Pairs: pairs, U: u}, api.OK, 0
	}
	return done(text, m, pairs), api.OK, 0
}

func done(text string, m molecule.Molecule, pairs []api.Pair) api.Result {
	orders := m.Doubled(pairs)
	return api.Result{
		Verdict: api.Done,
		Orders:  orders,
		Text:    writer.Write(text, m.Bonds, orders),
		Order:   counted(len(m.Atoms)),
	}
}

// counted is the order of atoms that stand as they stood.
func counted(n int) []int {
	list := make([]int, n)
	for i := range list {
		list[i] = i
	}
	return list
}
