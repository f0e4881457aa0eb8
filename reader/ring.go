package reader

import "benzol/api"

// opening of a ring: the end of its bond, and where its number stands.
type opening struct {
	end
	place int
	open  bool
}

// ringAhead tells if a ring number stands here, with a sign ahead of it or without. A sign ahead of anything else is that of a link.
func (r *reader) ringAhead() bool {
	if isSign(r.peek(0)) {
		return startsRing(r.peek(1))
	}
	return startsRing(r.peek(0))
}

func startsRing(b byte) bool { return b == '%' || b >= '0' && b <= '9' }

// ring reads a ring number of an atom, and opens or closes the ring.
func (r *reader) ring(atom int) bool {
	e, ok := r.bondEnd(atom)
	if !ok {
		return false
	}
	place := r.at
	number, ok := r.ringNumber()
	if !ok {
		return r.fail(api.ErrText, r.at)
	}
	first := r.rings[number]
	if !first.open {
		r.rings[number] = opening{e, place, true}
		return true
	}
	r.rings[number] = opening{}
	return r.closeRing(first.end, e, place)
}

func (r *reader) ringNumber() (int, bool) {
	tens, ok := 0, true
	if r.take("%") {
		tens, ok = r.digit('0', '9')
	}
	if !ok {
		return 0, false
	}
	ones, ok := r.digit('0', '9')
	return 10*tens + ones, ok
}

// closeRing lays the bond of a ring whose closing number stands at place. The closing sign is asked first: it stands further to the left.
func (r *reader) closeRing(first, last end, place int) bool {
	mixed := !r.BothAromatic(first.atom, last.atom)
	switch {
	case last.mark == ':' && mixed:
		return r.fail(api.ErrBond, last.spot)
	case first.mark == ':' && last.mark == 0 && mixed:
		return r.fail(api.ErrBond, place)
	case first.atom == last.atom, r.Joined(first.atom, last.atom), clash(first.mark, last.mark):
		return r.fail(api.ErrRing, place)
	}
	r.Bind(first.atom, last.atom, r.order(given(first.mark, last.mark), first.atom, last.atom), place)
	return true
}

// clash tells if both ends have a sign, and not the same.
func clash(a, b byte) bool { return a != 0 && b != 0 && a != b }

// given is the sign of two ends that don't clash.
func given(a, b byte) byte {
	if a != 0 {
		return a
	}
	return b
}

// ringsClosed fails at the leftmost number that was opened and not closed.
func (r *reader) ringsClosed() bool {
	place := len(r.text)
	for _, o := range r.rings {
		if o.open {
			place = min(place, o.place)
		}
	}
	if place < len(r.text) {
		return r.fail(api.ErrRing, place)
	}
	return true
}
