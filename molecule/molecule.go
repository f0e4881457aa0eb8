// Package molecule: atoms and the bonds between them, their hydrogens and valences.
package molecule

import (
	"benzol/api"
	"benzol/graph"
)

// Orders of a bond. Of an aromatic one it is not said if it is single or double.
const (
	Single   = 1
	Double   = 2
	Triple   = 3
	Aromatic = 4
)

// Placed is what atoms and bonds have in common: a byte of the text at which they stand.
type Placed struct {
	Place int
}

// Atom of a molecule that is being read. It keeps its place, as its valence is judged only when all bonds are known.
type Atom struct {
	api.Atom
	Placed
	Bracketed bool // then its hydrogens are those that stand there
}

// Bond of a molecule that is being read. Its place is where a sign may be put ahead: its second atom or its closing number.
type Bond struct {
	api.Bond
	Placed
}

// Molecule: atoms, their bonds, and the graph of both.
type Molecule struct {
	graph.Graph
	Atoms []Atom
	Bonds []Bond
}

// Add puts an atom behind the others and gives its number.
func (m *Molecule) Add(a Atom) int {
	m.Atoms = append(m.Atoms, a)
	return len(m.Atoms) - 1
}

// Bind lays a bond between two atoms that have none.
func (m *Molecule) Bind(a, b, order, place int) {
	m.Join(a, b)
	bond := api.Bond{A: min(a, b), B: max(a, b), Order: order}
	m.Bonds = append(m.Bonds, Bond{bond, Placed{place}})
}

// BothAromatic tells if two atoms may have an aromatic bond.
func (m *Molecule) BothAromatic(a, b int) bool {
	return m.Atoms[a].Aromatic && m.Atoms[b].Aromatic
}

// Plain gives atoms and bonds in memory of their own.
func (m *Molecule) Plain() api.Molecule {
	atoms := make([]api.Atom, len(m.Atoms))
	for i, a := range m.Atoms {
		atoms[i] = a.Atom
	}
	bonds := make([]api.Bond, len(m.Bonds))
	for i, b := range m.Bonds {
		bonds[i] = b.Bond
	}
	return api.Molecule{Atoms: atoms, Bonds: bonds}
}
