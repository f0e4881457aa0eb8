package benzol

import (
	"math/rand/v2"
	"reflect"
	"slices"
	"strconv"
	"strings"
	"sync"
	"testing"

	"benzol/api"
)

// unset gives the candidates of a molecule and the aromatic bonds between them, by the document's words and the tests' own list of valences.
func unset(m api.Molecule) (candidates []int, edges []api.Pair) {
	for i, a := range m.Atoms {
		have := a.Hydrogens
		for _, b := range m.Bonds {
			if b.A == i || b.B == i {
				have += []int{0, 1, 2, 3, 1}[b.Order]
			}
		}
		if a.Aromatic && have == valenceList[a.Element][a.Charge][0]-1 {
			candidates = append(candidates, i)
		}
	}
	for _, b := range m.Bonds {
		if b.Order == 4 && slices.Contains(candidates, b.A) && slices.Contains(candidates, b.B) {
			edges = append(edges, api.Pair{A: b.A, B: b.B})
		}
	}
	return candidates, edges
}

// canBeSet tells if each candidate can have a mate, by trying each mate of the first one that is left.
func canBeSet(left []int, edges []api.Pair) bool {
	if len(left) == 0 {
		return true
	}
	first, rest := left[0], left[1:]
	for i, mate := range rest {
		if slices.Contains(edges, api.Pair{A: first, B: mate}) && canBeSet(slices.Delete(slices.Clone(rest), i, i+1), edges) {
			return true
		}
	}
	return false
}

// doneFlaw tells what is wrong with a result as one that is done, or nothing.
func doneFlaw(m api.Molecule, candidates []int, edges []api.Pair, r api.Result) string {
	if len(r.Pairs) > 0 || len(r.U) > 0 {
		return "it has what a barred one has"
	}
	if len(r.Orders) != len(m.Bonds) {
		return "not each bond has an order"
	}
	more := make([]int, len(m.Atoms))
	for i, b := range m.Bonds {
		switch {
		case b.Order != 4 && r.Orders[i] != b.Order:
			return "a bond that is not aromatic has another order"
		case b.Order == 4 && r.Orders[i] == 2 && slices.Contains(edges, api.Pair{A: b.A, B: b.B}):
			more[b.A]++
			more[b.B]++
		case b.Order == 4 && r.Orders[i] != 1:
			return "an aromatic bond is neither single nor double between candidates"
		}
	}
	for i, n := range more {
		if slices.Contains(candidates, i) && n != 1 {
			return "a candidate has not one double bond more"
		}
	}
	return textFlaw(m, r)
}

// textFlaw tells what is wrong with text and order, or nothing. The text is read by the tests' own reader, which reads one that is too long for Parse too.
func textFlaw(m api.Molecule, r api.Result) string {
	if len(r.Text) > 4*api.MaxText {
		return "the text is too long"
	}
	got, errno, _ := askAnyLength(r.Text)
	if errno != api.OK {
		return "the text can't be read"
	}
	if len(got.Atoms) != len(m.Atoms) || len(r.Order) != len(m.Atoms) || len(got.Bonds) != len(m.Bonds) {
		return "the text has other atoms or bonds"
	}
	seen := make([]bool, len(m.Atoms))
	for i, a := range got.Atoms {
		k := r.Order[i]
		if k < 0 || k >= len(seen) || seen[k] {
			return "the order does not name each atom once"
		}
		seen[k] = true
		want := m.Atoms[k]
		want.Aromatic = false
		if a != want {
			return "the text has another atom"
		}
	}
	for _, b := range got.Bonds {
		p, q := r.Order[b.A], r.Order[b.B]
		i := slices.IndexFunc(m.Bonds, func(x api.Bond) bool { return x.A == min(p, q) && x.B == max(p, q) })
		if i < 0 || r.Orders[i] != b.Order {
			return "the text has another bond"
		}
	}
	if len(r.Text) <= api.MaxText {
		if again, errno, _ := Parse(r.Text); errno != api.OK || !reflect.DeepEqual(again.Atoms, got.Atoms) {
			return "Parse does not read the text"
		}
	}
	return ""
}

// barredFlaw tells what is wrong with a result as one that is barred, or nothing: pairs and U are held against P5 in the graph of the candidates alone, with numbers of its own.
func barredFlaw(candidates []int, edges []api.Pair, r api.Result) string {
	if len(r.Orders) > 0 || r.Text != "" || len(r.Order) > 0 {
		return "it has what one that is done has"
	}
	number := func(atom int) int { return slices.Index(candidates, atom) }
	numbers := func(list []api.Pair) []api.Pair {
		var out []api.Pair
		for _, p := range list {
			out = append(out, api.Pair{A: number(p.A), B: number(p.B)})
		}
		return out
	}
	var u []int
	for _, v := range r.U {
		u = append(u, number(v))
	}
	for _, p := range r.Pairs {
		if number(p.A) < 0 || number(p.B) < 0 {
			return "a pair has an atom that is no candidate"
		}
	}
	return flaw(len(candidates), numbers(edges), numbers(r.Pairs), u)
}

// kekulize asks Kekulize and holds what it answers against P6 and P7; it gives error and result.
func kekulize(t *testing.T, text string) (api.Result, api.Errno) {
	t.Helper()
	r, errno, at := Kekulize(text)
	m, wantErrno, wantAt := ask(text)
	if errno != wantErrno || at != wantAt {
		t.Fatalf("P6: Kekulize(%q) = %+v, %d, %d, want error %d at %d", text, r, errno, at, wantErrno, wantAt)
	}
	if errno != api.OK {
		if !reflect.DeepEqual(r, api.Result{}) {
			t.Fatalf("P1: Kekulize(%q): %+v beside error %d", text, r, errno)
		}
		return r, errno
	}
	candidates, edges := unset(m)
	want, f := api.Barred, ""
	if canBeSet(candidates, edges) {
		want = api.Done
		f = doneFlaw(m, candidates, edges, r)
	} else {
		f = barredFlaw(candidates, edges, r)
	}
	if r.Verdict != want {
		f = "the verdict is wrong"
	}
	if f != "" {
		t.Fatalf("P6, P7: Kekulize(%q) = %+v: %s", text, r, f)
	}
	return r, errno
}

// setBonds writes the orders of a result short, as bonds does.
func setBonds(t *testing.T, text string, r api.Result) string {
	t.Helper()
	m, _, _ := Parse(text)
	if len(r.Orders) != len(m.Bonds) {
		t.Fatalf("P6: Kekulize(%q): %d orders of %d bonds", text, len(r.Orders), len(m.Bonds))
	}
	for i := range m.Bonds {
		m.Bonds[i].Order = r.Orders[i]
	}
	return bonds(m)
}

// TestSetBonds: texts of which one choice of bonds alone is right.
func TestSetBonds(t *testing.T) {
	for _, c := range []struct{ text, bonds string }{
		{"C", ""},
		{"[NH4+].[Cl-]", ""},
		{"CC=CC#C", "0-1 1=2 2-3 3#4"},
		{"C1=CC=CC=C1", "0=1 1-2 2=3 3-4 4=5 0-5"},
		{"C(=O)(C)Cl", "0=1 0-2 0-3"},
		{"cc", "0=1"},
		{"c:c", "0=1"},
		{"cccc", "0=1 1-2 2=3"},
		{"cc.c1.c1", "0=1 2=3"},
		// a finished atom has none: by hydrogens, by its element, by a charge, by a double bond, by four bonds
		{"c1cc[nH]c1", "0-1 1=2 2-3 3-4 0=4"},
		{"c1ccoc1", "0-1 1=2 2-3 3-4 0=4"},
		{"s:1:c:c:c:c:1", "0-1 1=2 2-3 3=4 0-4"},
		{"p1(C)cccc1", "0-1 0-2 2=3 3-4 4=5 0-5"},
		{"[n-]1cccc1", "0-1 1=2 2-3 3=4 0-4"},
		{"[cH-]1cccc1", "0-1 1=2 2-3 3=4 0-4"},
		{"[cH+]1cccccc1", "0-1 1=2 2-3 3=4 4-5 5=6 0-6"},
		{"O=c1cc[nH]cc1", "0=1 1-2 2=3 3-4 4-5 5=6 1-6"},
		{"c(C)(C)(o(C))o(C)", "0-1 0-2 0-3 3-4 0-5 5-6"},
		// bonds that are single, double or triple stay so between small letters
		{"c1ccc-1", "0=1 1-2 2=3 0-3"},
		{"c1c-cc-cc-1", "0=1 1-2 2=3 3-4 4=5 0-5"},
		{"[oH]c#c[oH]", "0-1 1#2 2-3"},
		// a double bond is there already, and another must be
		{"c=1ccccc=1", "0=1 1-2 2=3 3-4 4=5 0=5"},
		{"cc=cc", "0=1 1=2 2=3"},
		{"c=1(:c).c1:c", "0=1 0=2 2=3"},
		// at a closing number, and at one of two digits whose sign stood at both ends
		{"c1o[nH]oc1", "0-1 1-2 2-3 3-4 0=4"},
		{"c:%12o[nH]oc:%12", "0-1 1-2 2-3 3-4 0=4"},
		{"c:%12o[nH]oc%12", "0-1 1-2 2-3 3-4 0=4"},
		// a bond that two rings have in common, double and single
		{"[nH]1ccc2c1[nH]cc2", "0-1 1=2 2-3 3=4 0-4 4-5 5-6 6=7 3-7"},
		{"o1cc2ccccc2c1", "0-1 1=2 2-3 3=4 4-5 5=6 6-7 2-7 7=8 0-8"},
	} {
		r, errno := kekulize(t, c.text)
		if got := setBonds(t, c.text, r); errno != api.OK || r.Verdict != api.Done || got != c.bonds {
			t.Errorf("P6: Kekulize(%q) = %+v, %d: %s, want %s", c.text, r, errno, got, c.bonds)
		}
	}
}

// TestByTurns: two choices are right, and each has 2 and 1 by turns around the ring.
func TestByTurns(t *testing.T) {
	for _, text := range []string{"c1ccccc1", "n1ccccc1", "c1ccc1", "[nH+]1cccccccccc[nH+]1"} {
		r, _ := kekulize(t, text)
		for i, order := range r.Orders {
			if next := r.Orders[(i+1)%len(r.Orders)]; order+next != 3 {
				t.Errorf("P6: Kekulize(%q): orders %v", text, r.Orders)
			}
		}
		if r.Verdict != api.Done {
			t.Errorf("P6: Kekulize(%q) = %+v", text, r)
		}
	}
	r, _ := kekulize(t, "c1ccccc1-c1ccccc1")
	if r.Verdict != api.Done || r.Orders[6] != 1 {
		t.Errorf("P6: the bond between two rings: %+v", r)
	}
}

// TestKnownMolecules: what is done has no verdict but that.
func TestKnownMolecules(t *testing.T) {
	for _, text := range []string{
		"c1ccc2ccccc2c1", "c1ccc2cc3ccccc3cc2c1", "Cn1cnc2c1c(=O)n(C)c(=O)n2C", "CC(=O)Oc1ccccc1C(=O)O", "c1cc2ccc3cccc4ccc(c1)c2c34",
		"c1cc[o+]cc1", "[nH+]1ccccc1", "[n+]1(C)ccccc1", "c1ccccc1C(=O)[O-].[NH4+]", "c1cc(Cl)cc(Br)c1", "S(=O)(=O)(N)c1ccccc1",
		"[cH]1[cH][cH][cH][cH][cH1]1", "n1[nH]nnc1", "c1cnc2[nH]cnc2n1", "[O-][n+]1ccccc1", "c1c[nH]c(n1)-c1ncc[nH]1",
	} {
		if r, errno := kekulize(t, text); errno != api.OK || r.Verdict != api.Done || !slices.Contains(r.Orders, 2) {
			t.Errorf("P6: Kekulize(%q) = %+v, %d", text, r, errno)
		}
	}
}

func TestBars(t *testing.T) {
	for _, c := range []struct {
		text  string
		pairs int
		u     string // "?" where there are several that show it
	}{
		{"c", 0, ""},
		{"c1ccnc1", 2, "?"},
		{"c1cccc1", 2, "?"},
		{"c1cc1", 1, ""},
		{"ccc", 1, "?"},
		{"c(c)(c)c", 1, "0"},
		{"CCc(c)(c)C.cc(c)(c)", 1, "7"},
		{"C.C.O.cC", 0, ""},
		{"c-c", 0, ""},
		{"c.c", 0, ""},
		{"c1ccccc1.c", 3, "?"},
		{"c1ccccc1c", 3, "?"},
		{"coc", 0, ""},
		{"o1cocn1", 1, "?"},
		{"c1oc[nH]cc1", 1, "?"},
		{"Cc1cc(C)cc(=O)c1", 2, "?"},
		{"cc(C)(C)c", 0, ""},
		{"c(c(c)c)(c(c)c)c(c)c", 3, "1 4 7"},
	} {
		r, errno := kekulize(t, c.text)
		var u []string
		for _, v := range r.U {
			u = append(u, strconv.Itoa(v))
		}
		if errno != api.OK || r.Verdict != api.Barred || len(r.Pairs) != c.pairs || c.u != "?" && strings.Join(u, " ") != c.u {
			t.Errorf("P6: Kekulize(%q) = %+v, %d, want %d pairs, U %s", c.text, r, errno, c.pairs, c.u)
		}
	}
}

// TestKekulizeRefuses: each error of Parse, with its place.
func TestKekulizeRefuses(t *testing.T) {
	for _, c := range []struct {
		text  string
		errno api.Errno
		at    int
	}{
		{"", api.ErrText, 0}, {"CC(", api.ErrText, 3}, {"c1ccccc1x", api.ErrText, 8}, {"c\xff", api.ErrText, 1}, {"[cH", api.ErrText, 3},
		{"C:C", api.ErrBond, 1}, {"c:1ccC1", api.ErrBond, 6},
		{"C1CC", api.ErrRing, 1}, {"C11", api.ErrRing, 2}, {"cc1c1", api.ErrRing, 4}, {"c1ccccc1c%12", api.ErrRing, 9},
		{strings.Repeat("c", api.MaxAtoms+1), api.ErrSize, api.MaxAtoms},
		{"C(C)(C)(C)(C)C", api.ErrValence, 0}, {"n", api.ErrValence, 0}, {"c1cc[nH2]c1", api.ErrValence, 4},
		{strings.Repeat("x", api.MaxText+1), api.ErrLong, 0}, {strings.Repeat("c", 1<<16), api.ErrLong, 0},
	} {
		if r, errno, at := Kekulize(c.text); errno != c.errno || at != c.at || !reflect.DeepEqual(r, api.Result{}) {
			t.Errorf("P6: Kekulize(%q) = %+v, %d, %d, want %d, %d", c.text, r, errno, at, c.errno, c.at)
		}
	}
}

func TestRingsOfCarbon(t *testing.T) {
	for n := 3; n <= api.MaxAtoms; n++ {
		for _, atom := range []string{"c", "[cH]", "c:"} {
			text := atom[:len(atom)-strings.Count(atom, ":")] + "1" + strings.Repeat(atom, n-1)
			text = strings.TrimSuffix(text, ":") + "1"
			r, errno := kekulize(t, text)
			if errno != api.OK || (r.Verdict == api.Done) != (n%2 == 0) {
				t.Errorf("P7: Kekulize(%q) = %+v, %d", text, r, errno)
			}
			if n%2 == 1 && len(r.Pairs) != n/2 {
				t.Errorf("P6: Kekulize(%q) = %+v, want %d pairs", text, r, n/2)
			}
		}
	}
}

// TestLongTexts: at the bounds; the last two are longer than Parse reads when their signs are there, whatever else is written otherwise.
func TestLongTexts(t *testing.T) {
	charged := strings.TrimSuffix(strings.Repeat("[nH2+][nH2+].", 12), ".")
	for _, text := range []string{
		strings.Repeat("c", api.MaxAtoms),
		strings.Repeat("[cH2][cH2].", 11) + "[cH2]:[cH2]",
		"[cH1]:%01" + strings.Repeat(":[cH1]", 22) + ":[cH1]:%01",
		charged,
		charged[:len(charged)-13] + ".[nH2+]:1.[nH2+]:1",
	} {
		r, errno := kekulize(t, text)
		if errno != api.OK || r.Verdict != api.Done || len(r.Orders) < api.MaxAtoms/2 {
			t.Errorf("P6: Kekulize(%q) = %+v, %d", text, r, errno)
		}
	}
	if r, _ := kekulize(t, charged); len(r.Text) <= api.MaxText {
		t.Errorf("P6: %q can't be right: each atom needs six bytes", r.Text)
	}
}

func TestKekulizeAllShortTexts(t *testing.T) {
	var seen [3]int
	for _, c := range []struct {
		letters string
		length  int
	}{{"Ccno1:-=(.)", 5}, {"c1:(2)", 7}, {"cn[]H+-", 6}} {
		texts := []string{""}
		for range c.length {
			var next []string
			for _, s := range texts {
				for _, b := range []byte(c.letters) {
					next = append(next, s+string(b))
				}
			}
			texts = next
			for _, s := range texts {
				r, _ := kekulize(t, s)
				seen[r.Verdict]++
			}
		}
	}
	if slices.Contains(seen[:], 0) {
		t.Errorf("not every verdict was met: %v", seen)
	}
}

// spelling writes a graph as a text in small letters, atom by atom from a drawn one on.
type spelling struct {
	*rand.Rand
	strings.Builder
	carbon bool // then all atoms are that
	near   [][]int
	seen   []bool
	rings  map[[2]int]string
}

// ringName: each ring has a number of its own, which is spelled this way or that.
func (s *spelling) ringName(a, b int) string {
	key := [2]int{min(a, b), max(a, b)}
	number, known := s.rings[key]
	if !known {
		number = "%" + strconv.Itoa(100 + len(s.rings))[1:]
		s.rings[key] = number
	}
	if number[1] == '0' && s.IntN(2) == 0 {
		number = number[2:]
	}
	return []string{"", "", ":"}[s.IntN(3)] + number
}

// name of an atom that may have so many bonds, each of them aromatic.
func (s *spelling) name(degree int) string {
	if s.carbon {
		return "c"
	}
	names := [][]string{
		{"c", "[cH3]", "[cH4]", "[nH2]", "[oH]", "[nH3]", "[cH2+]"},
		{"c", "c", "c", "o", "[cH2]", "[nH]", "[nH2]", "[o-]", "[nH2+]", "s"},
		{"c", "c", "c", "c", "c", "n", "n", "[nH]", "o", "s", "[cH]", "[cH-]", "[cH+]", "[nH+]", "[o+]", "[n-]"},
		{"c", "c", "c", "c", "c", "n", "[n+]", "p", "[c-]", "[o+]", "[cH]"},
		{"c", "[n+]"},
	}
	list := names[degree]
	return list[s.IntN(len(list))]
}

// reach marks what can be reached from a vertex without those that are marked.
func (s *spelling) reach(v int, marked []bool) {
	marked[v] = true
	for _, w := range s.near[v] {
		if !marked[w] {
			s.reach(w, marked)
		}
	}
}

// from writes an atom and what hangs on it and was not written yet. A neighbour that comes below another one is bound by a ring number.
func (s *spelling) from(v, parent int) {
	s.seen[v] = true
	s.WriteString(s.name(len(s.near[v])))
	marked := slices.Clone(s.seen)
	var below []int
	for _, i := range s.Perm(len(s.near[v])) {
		w := s.near[v][i]
		switch {
		case w == parent:
		case marked[w]:
			s.WriteString(s.ringName(v, w))
		default:
			below = append(below, w)
			s.reach(w, marked)
		}
	}
	for i, w := range below {
		sign := []string{"", "", ":"}[s.IntN(3)]
		if i == len(below)-1 {
			s.WriteString(sign)
			s.from(w, v)
			break
		}
		s.WriteString("(" + sign)
		s.from(w, v)
		s.WriteString(")")
	}
}

// spelled draws a text of a graph, of whose edges those are left out that give a vertex more than four.
func spelled(r *rand.Rand, n int, edges []api.Pair) string {
	s := spelling{Rand: r, carbon: r.IntN(2) == 0, near: make([][]int, n), seen: make([]bool, n), rings: map[[2]int]string{}}
	most := 3 + r.IntN(2)
	for _, e := range edges {
		if len(s.near[e.A]) < most && len(s.near[e.B]) < most && !slices.Contains(s.near[e.A], e.B) {
			s.near[e.A] = append(s.near[e.A], e.B)
			s.near[e.B] = append(s.near[e.B], e.A)
		}
	}
	for _, v := range r.Perm(n) {
		if s.seen[v] {
			continue
		}
		if s.Len() > 0 {
			s.WriteString(".")
		}
		s.from(v, -1)
	}
	return s.String()
}

func TestKekulizeMadeGraphs(t *testing.T) {
	var verdicts [3]int
	r := rand.New(rand.NewPCG(6, 7))
	for range 8000 {
		n := 3 + r.IntN(api.MaxAtoms-2)
		edges := drawn(r, n)
		switch r.IntN(3) {
		case 0:
			edges = nested(r, n)
		case 1:
			edges = slices.Concat(cycle(0, n), edges)
		}
		result, errno := kekulize(t, spelled(r, n, scattered(r, n, edges)))
		if errno != api.OK && errno != api.ErrLong {
			t.Fatalf("a graph was spelled wrong: %d", errno)
		}
		verdicts[result.Verdict]++
	}
	if verdicts[api.Done] < 800 || verdicts[api.Barred] < 800 {
		t.Errorf("too few of a verdict: %v", verdicts)
	}
}

func TestKekulizeMadeTexts(t *testing.T) {
	var verdicts [3]int
	r := rand.New(rand.NewPCG(8, 6))
	for range 30000 {
		result, _ := kekulize(t, made(r))
		verdicts[result.Verdict]++
	}
	if slices.Contains(verdicts[:], 0) {
		t.Errorf("not every verdict was met: %v", verdicts)
	}
}

// copied is a result in memory of its own.
func copied(r api.Result) api.Result {
	return api.Result{Verdict: r.Verdict, Orders: slices.Clone(r.Orders), Text: strings.Clone(r.Text), Order: slices.Clone(r.Order), Pairs: slices.Clone(r.Pairs), U: slices.Clone(r.U)}
}

func sameResult(a, b api.Result) bool {
	return a.Verdict == b.Verdict && a.Text == b.Text && slices.Equal(a.Orders, b.Orders) && slices.Equal(a.Order, b.Order) && slices.Equal(a.Pairs, b.Pairs) && slices.Equal(a.U, b.U)
}

// spoil writes into all room of a result's lists.
func spoil(r api.Result) {
	for _, list := range [][]int{r.Orders, r.Order, r.U} {
		list = list[:cap(list)]
		for i := range list {
			list[i] = -9
		}
	}
	pairs := r.Pairs[:cap(r.Pairs)]
	for i := range pairs {
		pairs[i] = api.Pair{A: -9, B: -9}
	}
}

var keptTexts = []string{"c1ccccc1C(=O)[O-]", "c(c)(c)c.cc", "C1CC", "c1c:cc:cc1.[NH4+]", "c1ccnc1", "CCCC"}

func TestKekulizeKeepsNothing(t *testing.T) {
	first := map[string]api.Result{}
	for range 3 {
		for _, text := range keptTexts {
			r, _, _ := Kekulize(strings.Clone(text))
			if want, known := first[text]; known && !sameResult(r, want) {
				t.Errorf("P2: Kekulize(%q) = %+v, then %+v", text, want, r)
			}
			first[text] = copied(r)
			_, _, _ = Parse(text)
			_, _, _ = Match(4, edgeList(0, 1, 2, 3, 1, 2))
			if !sameResult(r, first[text]) {
				t.Errorf("P2: another call wrote into what Kekulize(%q) gave: %+v", text, r)
			}
			spoil(r)
		}
	}
}

func TestKekulizeListsAreApart(t *testing.T) {
	for _, text := range keptTexts {
		one, _, _ := Kekulize(text)
		two, _, _ := Kekulize(text)
		want := copied(two)
		spoil(one)
		if !sameResult(two, want) {
			t.Errorf("P2: two answers of Kekulize(%q) share room: %+v", text, two)
		}
		lists := [][]int{one.Orders, one.Order, one.U, two.Orders, two.Order, two.U}
		for i, a := range lists {
			for _, b := range lists[:i] {
				if shared(a, b) {
					t.Errorf("P2: lists of Kekulize(%q) share room", text)
				}
			}
		}
	}
}

// shared tells if two lists have room in common, their spare room too.
func shared(a, b []int) bool {
	a, b = a[:cap(a)], b[:cap(b)]
	for i := range a {
		for k := range b {
			if &a[i] == &b[k] {
				return true
			}
		}
	}
	return false
}

func TestKekulizeAtTheSameTime(t *testing.T) {
	var callers sync.WaitGroup
	for _, text := range keptTexts {
		want, wantErrno, wantAt := Kekulize(text)
		for range 3 {
			callers.Go(func() {
				for range 50 {
					if r, errno, at := Kekulize(text); errno != wantErrno || at != wantAt || !sameResult(r, want) {
						t.Errorf("P2: Kekulize(%q) = %+v, %d, %d, want %+v, %d, %d", text, r, errno, at, want, wantErrno, wantAt)
					}
				}
			})
		}
	}
	callers.Wait()
}

func FuzzKekulize(f *testing.F) {
	for _, s := range []string{"c1ccccc1", "c1cc[nH]c1", "c:%12o[nH]oc:%12", "c(c)(c)c", "c=1(:c).c1:c", "[nH2+][nH2+]", "C1CC"} {
		f.Add(s)
	}
	f.Fuzz(func(t *testing.T, s string) {
		kekulize(t, s)
	})
}
