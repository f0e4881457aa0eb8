package molecule

import (
	"slices"

	"benzol/api"
)

// ringValence is what an aromatic carbon fills by bonds and hydrogens: one less than its valence, so that room for a double bond is left.
const ringValence = 3

// SetHydrogens gives each atom without brackets its hydrogens; it is called when all bonds are known.
func (m *Molecule) SetHydrogens() {
	for i, a := range m.Atoms {
		if !a.Bracketed {
			m.Atoms[i].Hydrogens = impliedHydrogens(a.Atom, m.Sum(i))
		}
	}
}

// FirstWrong finds the first atom whose valence is wrong; it is called when all hydrogens are set.
func (m *Molecule) FirstWrong() (int, bool) {
	for i := range m.Atoms {
		if m.wrong(i) {
			return i, true
		}
	}
	return 0, false
}

// Sum of an atom: that of the orders of its bonds, each aromatic one counted as 1.
func (m *Molecule) Sum(atom int) int {
	sum := 0
	for _, b := range m.Bonds {
		switch {
		case b.A != atom && b.B != atom:
		case b.Order == Aromatic:
			sum++
		default:
			sum += b.Order
		}
	}
	return sum
}

func (m *Molecule) wrong(atom int) bool {
	a := m.Atoms[atom]
	if a.Aromatic {
		return !m.candidate(atom) && !m.finished(atom)
	}
	return !slices.Contains(valencesOf(a.Element, a.Charge), m.filled(atom))
}

// candidate tells if an atom is aromatic and must have one double bond more.
func (m *Molecule) candidate(atom int) bool {
	a := m.Atoms[atom].Atom
	return a.Aromatic && m.filled(atom) == firstValence(a)-1
}

// finished tells if an aromatic atom has no room for another bond.
func (m *Molecule) finished(atom int) bool {
	return m.filled(atom) == firstValence(m.Atoms[atom].Atom)
}

// filled is what an atom has of its valence: sum and hydrogens together.
func (m *Molecule) filled(atom int) int {
	return m.Sum(atom) + m.Atoms[atom].Hydrogens
}

// firstValence of an aromatic atom; each element that may be aromatic has one at every charge.
func firstValence(a api.Atom) int {
	return valencesOf(a.Element, a.Charge)[0]
}

func impliedHydrogens(a api.Atom, sum int) int {
	switch {
	case !a.Aromatic:
		return missing(valencesOf(a.Element, a.Charge), sum)
	case a.Element == "C":
		return max(ringValence-sum, 0)
	}
	return 0
}

// missing is what a sum lacks to the least valence that is not below it. If there is none such, 0 leaves the sum above all of them, which is a wrong valence.
func missing(valences []int, sum int) int {
	for _, v := range valences {
		if v >= sum {
			return v - sum
		}
	}
	return 0
}

// valencesOf an element with a charge, rising.
func valencesOf(element string, charge int) []int {
	switch element {
	case "B":
		return byCharge(charge, []int{3}, nil, []int{4})
	case "C":
		return byCharge(charge, []int{4}, []int{3}, []int{3})
	case "N", "P":
		return byCharge(charge, []int{3, 5}, []int{4}, []int{2})
	case "O":
		return byCharge(charge, []int{2}, []int{3}, []int{1})
	case "S":
		return byCharge(charge, []int{2, 4, 6}, []int{3, 5}, []int{1})
	}
	return byCharge(charge, []int{1}, []int{2}, []int{0})
}

func byCharge(charge int, none, plus, minus []int) []int {
	switch {
	case charge > 0:
		return plus
	case charge < 0:
		return minus
	}
	return none
}
