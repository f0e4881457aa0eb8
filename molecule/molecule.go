// Package molecule: atoms and the bonds between them, their hydrogens and valences.
package molecule

import (
	"slices"

	"benzol/api"
	"benzol/graph"
)

// Aromatic is the order of a bond of which it is not said if it is single or double.
const Aromatic = 4

// Atom of a molecule that is being read.
type Atom struct {
	api.Atom
	Place     int  // of its first byte: its valence is judged only when all bonds are known
	Bracketed bool // then its hydrogens are those that stand there
}

// Molecule: atoms, their bonds, and the graph of both.
type Molecule struct {
	graph.Graph
	Atoms []Atom
	Bonds []api.Bond
}

// Add puts an atom behind the others and gives its number.
func (m *Molecule) Add(a Atom) int {
	m.Atoms = append(m.Atoms, a)
	return len(m.Atoms) - 1
}

// Bind lays a bond between two atoms that have none.
func (m *Molecule) Bind(a, b, order int) {
	m.Join(a, b)
	m.Bonds = append(m.Bonds, api.Bond{A: min(a, b), B: max(a, b), Order: order})
}

// BothAromatic tells if two atoms may have an aromatic bond.
func (m *Molecule) BothAromatic(a, b int) bool {
	return m.Atoms[a].Aromatic && m.Atoms[b].Aromatic
}

// Plain gives atoms and bonds in memory of their own.
func (m *Molecule) Plain() api.Molecule {
	atoms := make([]api.Atom, len(m.Atoms))
	for i, a := range m.Atoms {
		atoms[i] = a.Atom
	}
	return api.Molecule{Atoms: atoms, Bonds: slices.Clone(m.Bonds)}
}
