package reader

import (
	"benzol/api"
	"benzol/molecule"
)

// atom reads an atom and its bond to the end that it hangs on.
func (r *reader) atom(hung end) (int, bool) {
	a := molecule.Atom{Placed: molecule.Placed{Place: r.at}}
	a.Bracketed = r.take("[")
	if !r.name(&a) || !r.fits(hung, a) || a.Bracketed && !r.bracket(&a) {
		return 0, false
	}
	number := r.Add(a)
	if hung.atom != noAtom {
		r.Bind(hung.atom, number, r.order(hung.mark, hung.atom, number), a.Place)
	}
	return number, true
}

// name reads what element it is. Of an atom too many the bracket alone is wrong already, whatever stands in it.
func (r *reader) name(a *molecule.Atom) bool {
	found := false
	if a.Element, a.Aromatic, found = r.element(); found {
		return true
	}
	if a.Bracketed && r.full() {
		return r.fail(api.ErrSize, a.Place)
	}
	return r.fail(api.ErrText, r.at)
}

// fits tells if an atom may stand here. The sign ahead of it is asked first: it stands further to the left.
func (r *reader) fits(hung end, a molecule.Atom) bool {
	if hung.mark == ':' && !a.Aromatic {
		return r.fail(api.ErrBond, hung.spot)
	}
	if r.full() {
		return r.fail(api.ErrSize, a.Place)
	}
	return true
}

func (r *reader) full() bool { return len(r.Atoms) == api.MaxAtoms }

// element reads a name, two letters ahead of one, and tells if it is in small letters.
func (r *reader) element() (name string, aromatic, found bool) {
	b := r.peek(0)
	switch b {
	case 'C':
		if r.take("Cl") {
			return "Cl", false, true
		}
		fallthrough
	case 'B':
		if r.take("Br") {
			return "Br", false, true
		}
		fallthrough
	case 'N', 'O', 'P', 'S', 'F', 'I':
		r.at++
		return string(rune(b)), false, true
	case 'c', 'n', 'o', 'p', 's':
		r.at++
		return string(rune(b - 'a' + 'A')), true, true
	}
	return "", false, false
}

// bracket reads what follows the name in brackets.
func (r *reader) bracket(a *molecule.Atom) bool {
	if r.take("H") {
		a.Hydrogens = 1
		if n, ok := r.digit('1', '4'); ok {
			a.Hydrogens = n
		}
	}
	switch r.peek(0) {
	case '+', '-':
		a.Charge = chargeOf(r.peek(0))
		r.at++
		fallthrough
	case ']':
		if r.take("]") {
			return true
		}
	}
	return r.fail(api.ErrText, r.at)
}

func chargeOf(b byte) int {
	if b == '-' {
		return -1
	}
	return 1
}
