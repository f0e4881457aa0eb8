package benzol

import (
	"math/rand/v2"
	"reflect"
	"regexp"
	"slices"
	"strings"
	"testing"

	"benzol/api"
)

// The oracle answers as Parse must, by another way: the grammar is written off the document as it stands and tried with every choice; then all that is wrong is gathered, and the leftmost taken.

// rule gives the places to which it can go on from a place; far is the furthest byte that any choice refused.
type rule func(s string, at int, far *int) []int

func word(w string) rule {
	return func(s string, at int, far *int) []int {
		for i := range len(w) {
			if at+i >= len(s) || s[at+i] != w[i] {
				*far = max(*far, at+i)
				return nil
			}
		}
		return []int{at + len(w)}
	}
}

func either(rules ...rule) rule {
	return func(s string, at int, far *int) []int {
		var ends []int
		for _, r := range rules {
			ends = append(ends, r(s, at, far)...)
		}
		slices.Sort(ends)
		return slices.Compact(ends)
	}
}

func row(rules ...rule) rule {
	return func(s string, at int, far *int) []int {
		ends := []int{at}
		for _, r := range rules {
			var next []int
			for _, e := range ends {
				next = append(next, r(s, e, far)...)
			}
			slices.Sort(next)
			ends = slices.Compact(next)
		}
		return ends
	}
}

func maybe(r rule) rule { return either(word(""), r) }

func many(r rule) rule {
	return func(s string, at int, far *int) []int {
		all := []int{at}
		for i := 0; i < len(all); i++ {
			for _, e := range r(s, all[i], far) {
				if !slices.Contains(all, e) {
					all = append(all, e)
				}
			}
		}
		return all
	}
}

func words(list string) rule {
	var rules []rule
	for _, w := range strings.Fields(list) {
		rules = append(rules, word(w))
	}
	return either(rules...)
}

var (
	nameRule  = words("B C N O P S F Cl Br I c n o p s")
	digitRule = words("0 1 2 3 4 5 6 7 8 9")
	bondRule  = words("- = # :")
	atomRule  = either(nameRule, row(word("["), nameRule, maybe(row(word("H"), maybe(words("1 2 3 4")))), maybe(words("+ -")), word("]")))
	ringRule  = either(digitRule, row(word("%"), digitRule, digitRule))
	linkRule  = either(word(""), bondRule, word("."))
)

func chainRule(s string, at int, far *int) []int {
	knot := row(atomRule, many(row(maybe(bondRule), ringRule)), many(row(word("("), linkRule, chainRule, word(")"))))
	return row(knot, many(row(linkRule, knot)))(s, at, far)
}

// token splits a beginning of a text; the last one may be cut off.
var token = regexp.MustCompile(`\[(?:(Cl|Br|[BCNOPSFIcnops])(?:(H)([1-4])?)?([-+])?\]?)?|Cl|Br|[BCNOPSFIcnops]|[-=#:]|%[0-9]{0,2}|[0-9]|[().]`)

type wrong struct {
	place int
	rank  int // in the order in which the document names them
	errno api.Errno
}

type opened struct {
	atom, place int
	sign        string
}

type oracle struct {
	api.Molecule
	places  []int
	bare    []bool
	wrongs  []wrong
	rings   map[string]opened
	back    []int // the atoms ahead of open brackets
	last    int
	sign    string
	signAt  int
	dot     bool
	started bool
}

func (o *oracle) say(errno api.Errno, place int) {
	rank := slices.Index([]api.Errno{api.ErrText, api.ErrSize, api.ErrBond, api.ErrRing}, errno)
	o.wrongs = append(o.wrongs, wrong{place, rank, errno})
}

func (o *oracle) bonded(a, b int) bool {
	return slices.ContainsFunc(o.Bonds, func(x api.Bond) bool { return x.A == a && x.B == b })
}

func (o *oracle) bond(a, b int, sign string) {
	order := strings.Index("-=#:", sign) + 1
	if sign == "" {
		order = 1
		if o.Atoms[a].Aromatic && o.Atoms[b].Aromatic {
			order = 4
		}
	}
	o.Bonds = append(o.Bonds, api.Bond{A: a, B: b, Order: order})
}

func (o *oracle) atom(t string, m []string, at int) {
	if len(o.Atoms) >= api.MaxAtoms {
		o.say(api.ErrSize, at)
	}
	name := t
	if t[0] == '[' {
		name = m[1]
	}
	if name == "" {
		return
	}
	a := api.Atom{Element: strings.ToUpper(name[:1]) + name[1:], Aromatic: name == strings.ToLower(name)}
	if o.sign == ":" && !a.Aromatic {
		o.say(api.ErrBond, o.signAt)
	}
	if m[2] != "" {
		a.Hydrogens = max(1, strings.Index("01234", m[3]))
	}
	a.Charge = map[string]int{"+": 1, "-": -1}[m[4]]
	o.Atoms = append(o.Atoms, a)
	o.places = append(o.places, at)
	o.bare = append(o.bare, t[0] != '[')
	if o.started && !o.dot {
		o.bond(o.last, len(o.Atoms)-1, o.sign)
	}
	o.last, o.sign, o.dot, o.started = len(o.Atoms)-1, "", false, true
}

func (o *oracle) ring(t string, at int) {
	sign := o.sign
	o.sign = ""
	if t[0] == '%' && len(t) < 3 {
		return
	}
	number := t
	if t[0] == '%' {
		number = strings.TrimPrefix(t[1:], "0")
	}
	f, ok := o.rings[number]
	if !ok {
		o.rings[number] = opened{o.last, at, sign}
		return
	}
	delete(o.rings, number)
	both := o.Atoms[f.atom].Aromatic && o.Atoms[o.last].Aromatic
	if sign == ":" && !both {
		o.say(api.ErrBond, o.signAt)
	}
	if f.sign == ":" && sign == "" && !both {
		o.say(api.ErrBond, at)
	}
	if f.atom == o.last || o.bonded(f.atom, o.last) || f.sign != "" && sign != "" && f.sign != sign {
		o.say(api.ErrRing, at)
	}
	if sign == "" {
		sign = f.sign
	}
	o.bond(f.atom, o.last, sign)
}

func (o *oracle) tokens(s string) {
	for _, m := range token.FindAllStringSubmatchIndex(s, -1) {
		parts := make([]string, 5)
		for i := range parts {
			if m[2*i] >= 0 {
				parts[i] = s[m[2*i]:m[2*i+1]]
			}
		}
		switch t := parts[0]; {
		case strings.Contains("-=#:", t):
			o.sign, o.signAt = t, m[0]
			if t == ":" && !o.Atoms[o.last].Aromatic {
				o.say(api.ErrBond, m[0])
			}
		case t == ".":
			o.dot = true
		case t == "(":
			o.back = append(o.back, o.last)
		case t == ")":
			o.last = o.back[len(o.back)-1]
			o.back = o.back[:len(o.back)-1]
		case t[0] == '%' || t[0] >= '0' && t[0] <= '9':
			o.ring(t, m[0])
		default:
			o.atom(t, parts, m[0])
		}
	}
}

// valenceList is the document's, by element and charge.
var valenceList = map[string]map[int][]int{
	"B": {0: {3}, -1: {4}}, "C": {0: {4}, 1: {3}, -1: {3}}, "N": {0: {3, 5}, 1: {4}, -1: {2}}, "O": {0: {2}, 1: {3}, -1: {1}},
	"P": {0: {3, 5}, 1: {4}, -1: {2}}, "S": {0: {2, 4, 6}, 1: {3, 5}, -1: {1}},
	"F": {0: {1}, 1: {2}, -1: {0}}, "Cl": {0: {1}, 1: {2}, -1: {0}}, "Br": {0: {1}, 1: {2}, -1: {0}}, "I": {0: {1}, 1: {2}, -1: {0}},
}

// settle sets an atom's hydrogens and tells if its valence is right.
func (o *oracle) settle(i int) bool {
	a := &o.Atoms[i]
	sum := 0
	for _, b := range o.Bonds {
		if b.A == i || b.B == i {
			sum += []int{0, 1, 2, 3, 1}[b.Order]
		}
	}
	list := valenceList[a.Element][a.Charge]
	if a.Aromatic {
		if o.bare[i] && a.Element == "C" && sum < 3 {
			a.Hydrogens = 3 - sum
		}
		have := sum + a.Hydrogens
		return have == list[0] || have == list[0]-1
	}
	if !o.bare[i] {
		return slices.Contains(list, sum+a.Hydrogens)
	}
	for _, v := range list {
		if v >= sum {
			a.Hydrogens = v - sum
			return true
		}
	}
	return false
}

func ask(s string) (api.Molecule, api.Errno, int) {
	if len(s) > api.MaxText {
		return api.Molecule{}, api.ErrLong, 0
	}
	return askAnyLength(s)
}

func askAnyLength(s string) (api.Molecule, api.Errno, int) {
	o := oracle{rings: map[string]opened{}}
	far := 0
	whole := slices.Contains(chainRule(s, 0, &far), len(s))
	if whole {
		o.tokens(s)
	} else {
		o.tokens(s[:far])
		o.say(api.ErrText, far)
	}
	if len(o.wrongs) > 0 {
		w := slices.MinFunc(o.wrongs, func(a, b wrong) int { return (a.place-b.place)*10 + a.rank - b.rank })
		return api.Molecule{}, w.errno, w.place
	}
	if len(o.rings) > 0 {
		place := len(s)
		for _, r := range o.rings {
			place = min(place, r.place)
		}
		return api.Molecule{}, api.ErrRing, place
	}
	for i := range o.Atoms {
		if !o.settle(i) {
			return api.Molecule{}, api.ErrValence, o.places[i]
		}
	}
	return o.Molecule, api.OK, 0
}

// agree holds Parse against the oracle, and counts the answers by their kind.
func agree(t *testing.T, s string, seen *[8]int) {
	t.Helper()
	m, e, at := Parse(s)
	wm, we, wat := ask(s)
	seen[we]++
	if e != we || at != wat || !slices.Equal(m.Atoms, wm.Atoms) || !slices.Equal(m.Bonds, wm.Bonds) {
		t.Errorf("P3, P4: Parse(%q) = %+v, %d, %d, want %+v, %d, %d", s, m, e, at, wm, we, wat)
	}
	if e != api.OK && !reflect.DeepEqual(m, api.Molecule{}) {
		t.Errorf("P1: Parse(%q): %+v beside error %d", s, m, e)
	}
}

func TestAllShortTexts(t *testing.T) {
	var seen [8]int
	for _, c := range []struct {
		letters string
		length  int
	}{{"CcBlrnoFH[]+-12%05:=#().x\x00", 3}, {"Cc[]H+1%0:=(.)", 4}, {"Cc1:-[]", 6}, {"c1:(2)", 6}} {
		texts := []string{""}
		for range c.length {
			var next []string
			for _, s := range texts {
				agree(t, s, &seen)
				for _, b := range []byte(c.letters) {
					next = append(next, s+string(b))
				}
			}
			texts = next
		}
		for _, s := range texts {
			agree(t, s, &seen)
		}
	}
	if seen[api.OK] == 0 || seen[api.ErrText] == 0 || seen[api.ErrBond] == 0 || seen[api.ErrRing] == 0 || seen[api.ErrValence] == 0 {
		t.Errorf("not every kind was met: %v", seen)
	}
}

// made throws a text together that is mostly right for some way.
func made(r *rand.Rand) string {
	pieces := strings.Fields("c c c c c c n o s p C C N O [nH] [n+] [c-] [NH4+] [C] [CH2] [cH] Cl Br B S P F I c1 c1 c1 c2 c:1 c-1 C1 C=1 C#2 c%01 c%1 C%12 [ [x [C [c ( ( ) ) (= (: (. = - # : : . 1 2 =1 :1 %02 x H ]")
	var b strings.Builder
	if r.IntN(4) == 0 {
		b.WriteString(strings.Repeat([]string{"c", "C", "C.", "[cH3]"}[r.IntN(4)], 20+r.IntN(5)))
	}
	usual := 4 + r.IntN(len(pieces)-3)
	for range r.IntN(24) {
		b.WriteString(pieces[r.IntN(usual)])
	}
	s := b.String()
	for range r.IntN(3) {
		if at := r.IntN(len(s) + 1); at < len(s) && r.IntN(2) == 0 {
			s = s[:at] + s[at+1:]
		} else {
			s = s[:at] + pieces[r.IntN(len(pieces))] + s[at:]
		}
	}
	return s
}

func TestMadeTexts(t *testing.T) {
	var seen [8]int
	r := rand.New(rand.NewPCG(7, 11))
	for range 60000 {
		agree(t, made(r), &seen)
	}
	for e := api.OK; e < api.ErrGraph; e++ {
		if e != api.ErrLong && seen[e] == 0 {
			t.Errorf("error %d was never met: %v", e, seen)
		}
	}
}
