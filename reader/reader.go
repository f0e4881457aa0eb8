// Package reader: a text, read byte by byte into a molecule.
package reader

import (
	"benzol/api"
	"benzol/molecule"
)

// noAtom stands where an atom is looked for that a bond goes out from, and there is to be no bond.
const noAtom = -1

// reader reads from its cursor into its molecule, until a fault or the end.
type reader struct {
	cursor
	molecule.Molecule
	fault
	rings [100]opening // by their numbers
}

// fault is the first thing that was found wrong.
type fault struct {
	errno api.Errno
	place int
}

// fail notes what is wrong; it gives false, so that a step can fail and say so at once.
func (f *fault) fail(errno api.Errno, place int) bool {
	*f = fault{errno, place}
	return false
}

// sign of a bond and where it stands; its mark is 0 if it was left out.
type sign struct {
	mark byte
	spot int
}

// end of a bond whose other end is not known yet.
type end struct {
	sign
	atom int
}

// Read gives the molecule of a text, or what is wrong in it, and where.
func Read(text string) (molecule.Molecule, api.Errno, int) {
	if len(text) > api.MaxText {
		return molecule.Molecule{}, api.ErrLong, 0
	}
	r := reader{cursor: cursor{text: text}}
	if !r.whole() {
		return molecule.Molecule{}, r.errno, r.place
	}
	return r.Molecule, api.OK, 0
}

func (r *reader) whole() bool {
	if !r.chain(end{atom: noAtom}) {
		return false
	}
	if !r.ended() {
		return r.fail(api.ErrText, r.at)
	}
	return r.ringsClosed() && r.valencesRight()
}

// chain reads knots up to a closing bracket or the text's end. That the brackets nest no deeper than there may be atoms bounds the calls.
func (r *reader) chain(first end) bool {
	atom, ok := r.knot(first)
	for ok && !r.ended() && r.peek(0) != ')' {
		atom, ok = r.linkedKnot(atom)
	}
	return ok
}

func (r *reader) linkedKnot(from int) (int, bool) {
	e, ok := r.link(from)
	if !ok {
		return 0, false
	}
	return r.knot(e)
}

// knot reads an atom with its ring numbers and branches, and gives the atom.
func (r *reader) knot(hung end) (int, bool) {
	atom, ok := r.atom(hung)
	for ok && r.ringAhead() {
		ok = r.ring(atom)
	}
	for ok && r.take("(") {
		ok = r.branch(atom)
	}
	return atom, ok
}

func (r *reader) branch(from int) bool {
	e, ok := r.link(from)
	if !ok || !r.chain(e) {
		return false
	}
	if !r.take(")") {
		return r.fail(api.ErrText, r.at)
	}
	return true
}

func (r *reader) link(from int) (end, bool) {
	if r.take(".") {
		return end{atom: noAtom}, true
	}
	return r.bondEnd(from)
}

// bondEnd reads the sign of a bond that goes out from an atom, if there is one. Whatever follows, the atom behind which a sign stands is known here.
func (r *reader) bondEnd(from int) (end, bool) {
	e := end{atom: from}
	if !isSign(r.peek(0)) {
		return e, true
	}
	e.sign = sign{r.peek(0), r.at}
	r.at++
	if e.mark == ':' && !r.Atoms[from].Aromatic {
		return e, r.fail(api.ErrBond, e.spot)
	}
	return e, true
}

func isSign(b byte) bool { return b == '-' || b == '=' || b == '#' || b == ':' }

// order of a bond between two atoms, by its sign.
func (r *reader) order(mark byte, a, b int) int {
	switch mark {
	case '-':
		return molecule.Single
	case '=':
		return molecule.Double
	case '#':
		return molecule.Triple
	case ':':
		return molecule.Aromatic
	}
	if r.BothAromatic(a, b) {
		return molecule.Aromatic
	}
	return molecule.Single
}

func (r *reader) valencesRight() bool {
	r.SetHydrogens()
	if atom, found := r.FirstWrong(); found {
		return r.fail(api.ErrValence, r.Atoms[atom].Place)
	}
	return true
}
