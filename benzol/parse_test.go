package benzol

import (
	"slices"
	"strconv"
	"strings"
	"testing"

	"benzol/api"
)

// atoms writes a molecule's atoms short: element (small if aromatic), hydrogens, charge.
func atoms(m api.Molecule) string {
	var out []string
	for _, a := range m.Atoms {
		s := a.Element
		if a.Aromatic {
			s = strings.ToLower(s)
		}
		s += strconv.Itoa(a.Hydrogens)
		switch a.Charge {
		case 1:
			s += "+"
		case -1:
			s += "-"
		}
		out = append(out, s)
	}
	return strings.Join(out, " ")
}

// bonds writes a molecule's bonds short: A, the order's sign, B.
func bonds(m api.Molecule) string {
	var out []string
	for _, b := range m.Bonds {
		out = append(out, strconv.Itoa(b.A)+string("?-=#:"[b.Order])+strconv.Itoa(b.B))
	}
	return strings.Join(out, " ")
}

func TestMolecules(t *testing.T) {
	for _, c := range []struct{ text, atoms, bonds string }{
		{"C", "C4", ""},
		{"B.C.N.O.P.S.F.Cl.Br.I", "B3 C4 N3 O2 P3 S2 F1 Cl1 Br1 I1", ""},
		{"[BH4-].[CH3+].[CH3-].[NH4+].[NH2-].[OH3+].[OH-].[SH3+].[SH-].[FH2+].[I-]", "B4- C3+ C3- N4+ N2- O3+ O1- S3+ S1- F2+ I0-", ""},
		{"[CH4].[NH3].[OH2].[ClH].[BrH1]", "C4 N3 O2 Cl1 Br1", ""},
		{"CC=CC#C", "C3 C1 C1 C0 C1", "0-1 1=2 2-3 3#4"},
		{"C-C", "C3 C3", "0-1"},
		{"C(=O)(C)Cl", "C0 O0 C3 Cl0", "0=1 0-2 0-3"},
		{"CC(C(F)Br)(.O)I", "C3 C1 C1 F0 Br0 O2 I0", "0-1 1-2 2-3 2-4 1-6"},
		{"C.C(.C)C", "C4 C3 C4 C3", "1-3"},
		{"N(=O)(=O)C.S(F)(F)(F)(F)(F)F.CS(C)=O.P(F)(F)F", "N0 O0 O0 C3 S0 F0 F0 F0 F0 F0 F0 C3 S0 C3 O0 P0 F0 F0 F0", "0=1 0=2 0-3 4-5 4-6 4-7 4-8 4-9 4-10 11-12 12-13 12=14 15-16 15-17 15-18"},
		{"c1ccccc1", "c1 c1 c1 c1 c1 c1", "0:1 1:2 2:3 3:4 4:5 0:5"},
		{"c1ccccc1-c1ccccc1", "c1 c1 c1 c1 c1 c0 c0 c1 c1 c1 c1 c1", "0:1 1:2 2:3 3:4 4:5 0:5 5-6 6:7 7:8 8:9 9:10 10:11 6:11"},
		{"c1cc[nH]c1", "c1 c1 c1 n1 c1", "0:1 1:2 2:3 3:4 0:4"},
		{"c1cocn1.s1cccc1.[p]1ccccc1", "c1 c1 o0 c1 n0 s0 c1 c1 c1 c1 p0 c1 c1 c1 c1 c1", "0:1 1:2 2:3 3:4 0:4 5:6 6:7 7:8 8:9 5:9 10:11 11:12 12:13 13:14 14:15 10:15"},
		{"[nH+]1ccccc1.[o+]1ccccc1.[n-]1cccc1", "n1+ c1 c1 c1 c1 c1 o0+ c1 c1 c1 c1 c1 n0- c1 c1 c1 c1", "0:1 1:2 2:3 3:4 4:5 0:5 6:7 7:8 8:9 9:10 10:11 6:11 12:13 13:14 14:15 15:16 12:16"},
		{"c=O", "c1 O0", "0=1"},
		{"c-c", "c2 c2", "0-1"},
		{"cC", "c2 C3", "0-1"},
		{"c(=O)(C)C", "c0 O0 C3 C3", "0=1 0-2 0-3"},
		{"c(C)(:c)c", "c0 C3 c2 c2", "0-1 0:2 0:3"},
		// ring numbers: a sign at the opening, at the closing, at both
		{"C1CC1", "C2 C2 C2", "0-1 1-2 0-2"},
		{"C=1CC1", "C1 C2 C1", "0-1 1-2 0=2"},
		{"C1CC=1", "C1 C2 C1", "0-1 1-2 0=2"},
		{"C=1CC=1", "C1 C2 C1", "0-1 1-2 0=2"},
		{"C#1CCCC1", "C0 C2 C2 C2 C0", "0-1 1-2 2-3 3-4 0#4"},
		{"c:1cc1", "c1 c1 c1", "0:1 1:2 0:2"},
		{"c1cc:1", "c1 c1 c1", "0:1 1:2 0:2"},
		{"c:1cc:1", "c1 c1 c1", "0:1 1:2 0:2"},
		{"c-1cc1", "c1 c1 c1", "0:1 1:2 0-2"},
		{"c1cc-1", "c1 c1 c1", "0:1 1:2 0-2"},
		{"c1cC1", "c1 c1 C2", "0:1 1-2 0-2"},
		// numbers with %, one that is opened again, two at one atom, a ring over a dot
		{"C%07CC7", "C2 C2 C2", "0-1 1-2 0-2"},
		{"C0CC%00", "C2 C2 C2", "0-1 1-2 0-2"},
		{"C%99CC=%99", "C1 C2 C1", "0-1 1-2 0=2"},
		{"C%123CC%12C3", "C1 C2 C1 C2", "0-1 1-2 0-2 2-3 0-3"},
		{"C1CC1C1CC1", "C2 C2 C1 C1 C2 C2", "0-1 1-2 0-2 2-3 3-4 4-5 3-5"},
		{"C1CC11CC1", "C2 C2 C0 C2 C2", "0-1 1-2 0-2 2-3 3-4 2-4"},
		{"C=1CC1C1CC1", "C1 C2 C0 C1 C2 C2", "0-1 1-2 0=2 2-3 3-4 4-5 3-5"},
		{"C12.C1.C2", "C2 C3 C3", "0-1 0-2"},
		{"C1(C2)CC12", "C1 C2 C2 C1", "0-1 0-2 2-3 0-3 1-3"},
	} {
		m, e, at := Parse(c.text)
		if e != api.OK || at != 0 || atoms(m) != c.atoms || bonds(m) != c.bonds {
			t.Errorf("P4: Parse(%q) = %s; %s; %d, %d, want %s; %s", c.text, atoms(m), bonds(m), e, at, c.atoms, c.bonds)
		}
	}
}

func TestFaults(t *testing.T) {
	full, small := strings.Repeat("C", api.MaxAtoms), strings.Repeat("c", api.MaxAtoms)
	for _, c := range []struct {
		text  string
		errno api.Errno
		at    int
	}{
		// no text goes on
		{"", api.ErrText, 0}, {"x", api.ErrText, 0}, {"C\xff", api.ErrText, 1}, {"C\x00C", api.ErrText, 1}, {" C", api.ErrText, 0}, {"C ", api.ErrText, 1}, {"CC\n", api.ErrText, 2}, {"é", api.ErrText, 0},
		{"H", api.ErrText, 0}, {"b", api.ErrText, 0}, {"cl", api.ErrText, 1}, {"CL", api.ErrText, 1}, {"Cr", api.ErrText, 1}, {"Bl", api.ErrText, 1}, {"l", api.ErrText, 0},
		{"(C)", api.ErrText, 0}, {")", api.ErrText, 0}, {".C", api.ErrText, 0}, {"%01", api.ErrText, 0}, {":c", api.ErrText, 0},
		{"C(", api.ErrText, 2}, {"C(C", api.ErrText, 3}, {"C(C))", api.ErrText, 4}, {"C((C))", api.ErrText, 2}, {"C(C)1CC1", api.ErrText, 4}, {"C(C)-", api.ErrText, 5}, {"C(C-)C", api.ErrText, 4}, {"C(.)", api.ErrText, 3}, {"C(=.C)", api.ErrText, 3}, {"C.=C", api.ErrText, 2}, {"C.1", api.ErrText, 2}, {"C=.C", api.ErrText, 2}, {"C-=1", api.ErrText, 2}, {"C=)", api.ErrText, 2},
		{"C%", api.ErrText, 2}, {"C%x1", api.ErrText, 2}, {"C%1", api.ErrText, 3}, {"C%1%", api.ErrText, 3}, {"C=%x", api.ErrText, 3},
		{"[", api.ErrText, 1}, {"[]", api.ErrText, 1}, {"[H]", api.ErrText, 1}, {"[4C]", api.ErrText, 1}, {"[[C]]", api.ErrText, 1}, {"[CC]", api.ErrText, 2}, {"[CH", api.ErrText, 3}, {"[CH0]", api.ErrText, 3}, {"[CH5]", api.ErrText, 3}, {"[CH22]", api.ErrText, 4}, {"[CHH]", api.ErrText, 3}, {"[C-+]", api.ErrText, 3}, {"[C+2]", api.ErrText, 3}, {"[C-H]", api.ErrText, 3}, {"[C+", api.ErrText, 3}, {"C]", api.ErrText, 1},
		// too many atoms
		{full + "C", api.ErrSize, 24}, {full + "[", api.ErrSize, 24}, {full + "[x]", api.ErrSize, 24}, {full + "[C", api.ErrSize, 24}, {full + "-[", api.ErrSize, 25}, {full + "(C)", api.ErrSize, 25}, {full + ".Cl", api.ErrSize, 25}, {full + "x", api.ErrText, 24}, {full + "-", api.ErrText, 25}, {full + ")", api.ErrText, 24}, {full + "1C", api.ErrSize, 25}, {full + ":C", api.ErrBond, 24},
		{small + ":c", api.ErrSize, 25}, {small + ":C", api.ErrBond, 24}, {small + ":x", api.ErrText, 25}, {small + ":[", api.ErrSize, 25}, {small + ":[x]", api.ErrSize, 25}, {small + ":[c]", api.ErrSize, 25}, {small + ":[C]", api.ErrBond, 24},
		// an aromatic bond at an atom that is not
		{"C:C", api.ErrBond, 1}, {"C:c", api.ErrBond, 1}, {"c:C", api.ErrBond, 1}, {"c:Cl", api.ErrBond, 1}, {"C:", api.ErrBond, 1}, {"C:x", api.ErrBond, 1}, {"C::C", api.ErrBond, 1}, {"[CH3]:c", api.ErrBond, 5}, {"c:x", api.ErrText, 2}, {"c:", api.ErrText, 2},
		{"c:[C", api.ErrBond, 1}, {"c:[CH5]", api.ErrBond, 1}, {"c:[Cx", api.ErrBond, 1}, {"c:[", api.ErrText, 3}, {"c:[x", api.ErrText, 3}, {"c:[cx", api.ErrText, 4},
		{"c(:C)c", api.ErrBond, 2}, {"C(:c)c", api.ErrBond, 2}, {"c(C):C", api.ErrBond, 4}, {"C(c):c", api.ErrBond, 4}, {"c(C:c)", api.ErrBond, 3},
		{"C:1CC1", api.ErrBond, 1}, {"C:%x", api.ErrBond, 1}, {"c1CC:1", api.ErrBond, 4}, {"C1cc:1", api.ErrBond, 4}, {"C-1cc:1", api.ErrBond, 5}, {"C1c:1", api.ErrBond, 3}, {"C1cc:%0x", api.ErrText, 7}, {"C%10cc:%10", api.ErrBond, 6},
		{"c:1cC1", api.ErrBond, 5}, {"c:1cC%01", api.ErrBond, 5}, {"c:1C1", api.ErrBond, 4}, {"c:1cC-1", api.ErrRing, 6}, {"c:1cC:1", api.ErrBond, 5}, {"c:1cc-1", api.ErrRing, 6},
		// rings that can't be closed
		{"C11", api.ErrRing, 2}, {"C1%01", api.ErrRing, 2}, {"C1=1", api.ErrRing, 3}, {"c:1:1", api.ErrRing, 4}, {"C1C1", api.ErrRing, 3}, {"C1=C-%01", api.ErrRing, 5}, {"C1(C1)", api.ErrRing, 4}, {"C12CC12", api.ErrRing, 6}, {"C12.C12", api.ErrRing, 6}, {"C1CC1C1C1", api.ErrRing, 8}, {"C=1CC#1", api.ErrRing, 6}, {"C-1CC=%01", api.ErrRing, 6}, {"c-1cc:1", api.ErrRing, 6},
		{"C11x", api.ErrRing, 2}, {"C1xC1", api.ErrText, 2}, {"C1C1:C", api.ErrRing, 3}, {"C:C11", api.ErrBond, 1},
		// rings that are not closed: told only behind all else that is read
		{"C1", api.ErrRing, 1}, {"C=1", api.ErrRing, 2}, {"C%12", api.ErrRing, 1}, {"C9C1", api.ErrRing, 1}, {"C1C2CC1", api.ErrRing, 3}, {"C1CC1C1", api.ErrRing, 6}, {"C1CC2C1", api.ErrRing, 4}, {"C1CCx", api.ErrText, 4}, {"C1C:C", api.ErrBond, 3}, {"C1" + full, api.ErrSize, 25}, {"C1FFF", api.ErrRing, 1},
		// valences: told last
		{"FF(F)", api.ErrValence, 1}, {"CO(C)C", api.ErrValence, 1}, {"C(C)(C)(C)(C)C", api.ErrValence, 0}, {"CC(=C)(=C)C", api.ErrValence, 1}, {"N(=O)(=O)(=O)", api.ErrValence, 0}, {"S(=O)(=O)(=O)C", api.ErrValence, 0}, {"B(F)(F)(F)F", api.ErrValence, 0}, {"F=O", api.ErrValence, 0}, {"C.[C]", api.ErrValence, 2}, {"[CH3]", api.ErrValence, 0}, {"C[CH4]", api.ErrValence, 1}, {"[B+]", api.ErrValence, 0}, {"[BH3+]", api.ErrValence, 0}, {"[NH4]", api.ErrValence, 0}, {"[Cl]", api.ErrValence, 0}, {"C[Cl-]", api.ErrValence, 1},
		{"n", api.ErrValence, 0}, {"c.cc.o.n", api.ErrValence, 5}, {"[c]", api.ErrValence, 0}, {"c(C)(C)(C)(C)C", api.ErrValence, 0}, {"n(=O)(C)C", api.ErrValence, 0}, {"[nH2]1cccc1", api.ErrValence, 0}, {"[nH]1cc[cH2]c1", api.OK, 0}, {"[nH]1cc[cH3]c1", api.ErrValence, 7}, {"[CH][CH]x", api.ErrText, 8},
	} {
		m, e, at := Parse(c.text)
		if e != c.errno || at != c.at || e != api.OK && (len(m.Atoms) > 0 || len(m.Bonds) > 0) {
			t.Errorf("P3: Parse(%q) = %+v, %d, %d, want %d, %d", c.text, m, e, at, c.errno, c.at)
		}
	}
}

func TestBounds(t *testing.T) {
	longest := "[NH3+]" + strings.Repeat("-[CH2]", 14) + strings.Repeat("(-[CH2]", 8) + "-[CH3]" + strings.Repeat(")", 8)
	if len(longest) != api.MaxText {
		t.Fatalf("the text has %d bytes", len(longest))
	}
	m, e, at := Parse(longest)
	if e != api.OK || at != 0 || len(m.Atoms) != api.MaxAtoms || len(m.Bonds) != api.MaxAtoms-1 {
		t.Errorf("P3: MaxText bytes, MaxAtoms atoms: %d atoms, %d, %d", len(m.Atoms), e, at)
	}
	for _, s := range []string{longest + "C", longest + "x", strings.Repeat("x", api.MaxText+1), strings.Repeat("C", 1<<16), strings.Repeat("C(", 1<<16)} {
		if m, e, at := Parse(s); e != api.ErrLong || at != 0 || len(m.Atoms)+len(m.Bonds) > 0 {
			t.Errorf("P3: %d bytes: %+v, %d, %d", len(s), m, e, at)
		}
	}
	if _, e, at := Parse(strings.Repeat("x", api.MaxText)); e != api.ErrText || at != 0 {
		t.Errorf("P3: MaxText bytes that are no text: %d, %d", e, at)
	}
	if _, e, at := Parse(strings.Repeat("C(", api.MaxText/2)); e != api.ErrSize || at != 2*api.MaxAtoms {
		t.Errorf("P3: brackets without end: %d, %d", e, at)
	}
}

// TestValences goes through every element, charge, number of hydrogens and sum, in brackets and bare, in small letters and capitals.
func TestValences(t *testing.T) {
	for element, byCharge := range valenceList {
		for charge, sign := range map[int]string{0: "", 1: "+", -1: "-"} {
			for hydrogens := range 5 {
				for sum := range 8 {
					list := byCharge[charge]
					inside := sign + "]" + strings.Repeat("(F)", sum)
					if hydrogens > 0 {
						inside = "H" + strconv.Itoa(hydrogens) + inside
					}
					judge(t, "["+element+inside, slices.Contains(list, sum+hydrogens), hydrogens)
					if strings.Contains("CNOPS", element) {
						judge(t, "["+strings.ToLower(element)+inside, sum+hydrogens == list[0] || sum+hydrogens == list[0]-1, hydrogens)
					}
				}
			}
		}
		for sum := range 8 {
			room := slices.IndexFunc(byCharge[0], func(v int) bool { return v >= sum })
			fluorines := strings.Repeat("(F)", sum)
			if room >= 0 {
				judge(t, element+fluorines, true, byCharge[0][room]-sum)
			} else {
				judge(t, element+fluorines, false, 0)
			}
			switch element {
			case "C":
				judge(t, "c"+fluorines, sum <= 4, max(0, 3-sum))
			case "N", "O", "P", "S":
				judge(t, strings.ToLower(element)+fluorines, sum == byCharge[0][0] || sum == byCharge[0][0]-1, 0)
			}
		}
	}
}

// judge holds what Parse says of the first atom against what it must say.
func judge(t *testing.T, text string, right bool, hydrogens int) {
	t.Helper()
	m, e, at := Parse(text)
	switch {
	case right && (e != api.OK || m.Atoms[0].Hydrogens != hydrogens):
		t.Errorf("P3, P4: Parse(%q) = %+v, %d, %d, want %d hydrogens", text, m, e, at, hydrogens)
	case !right && (e != api.ErrValence || at != 0):
		t.Errorf("P3: Parse(%q) = %+v, %d, %d, want a wrong valence", text, m, e, at)
	}
}

func TestNothingIsKept(t *testing.T) {
	texts := []string{"c1ccccc1C(=O)[O-]", "C1CC1.[NH4+]", "C1CC", "CCCC"}
	type answer struct {
		atoms, bonds string
		errno        api.Errno
		at           int
	}
	var first []answer
	for range 3 {
		for i, s := range texts {
			m, e, at := Parse(strings.Clone(s))
			got := answer{atoms(m), bonds(m), e, at}
			if len(first) <= i {
				first = append(first, got)
			}
			if got != first[i] {
				t.Errorf("P2: Parse(%q) = %+v, then %+v", s, first[i], got)
			}
			clear(m.Atoms[:cap(m.Atoms)])
			clear(m.Bonds[:cap(m.Bonds)])
		}
	}
}

func TestAnswersAreApart(t *testing.T) {
	const text = "CC(=O)Cl"
	one, _, _ := Parse(text)
	two, _, _ := Parse(text)
	wantAtoms, wantBonds := atoms(two), bonds(two)
	clear(one.Atoms[:cap(one.Atoms)])
	clear(one.Bonds[:cap(one.Bonds)])
	if atoms(two) != wantAtoms || bonds(two) != wantBonds {
		t.Errorf("P2: two answers share room: %+v", two)
	}
}

func FuzzParse(f *testing.F) {
	for _, s := range []string{"c1ccccc1", "C%12CC=%12", "[nH+]1cccc1", "C(=O)(C)Cl", "c:[C", "C1CC"} {
		f.Add(s)
	}
	f.Fuzz(func(t *testing.T, s string) {
		var seen [8]int
		agree(t, s, &seen)
	})
}
