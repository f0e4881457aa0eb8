// Package writer: a text whose double bonds are set.
package writer

import (
	"strings"

	"benzol/molecule"
)

// Write gives a text again, all atoms in capitals, with these orders of its bonds, which stand by rising places.
//
// Only what is aromatic is written otherwise: each atom keeps its place among the others, its brackets and its ring numbers. One without brackets keeps its hydrogens too: in small letters they fill a candidate up to one less than its first valence, in capitals, with its double bond, up to that valence; and a finished one has none in either. So the text grows by one sign for each double bond at most: it stays below 4 times MaxText, if not always below MaxText.
func Write(text string, bonds []molecule.Bond, orders []int) string {
	var out strings.Builder
	from := 0
	for i, b := range bonds {
		if b.Order == molecule.Aromatic && orders[i] == molecule.Double {
			out.WriteString(capitals(text[from:b.Place]))
			out.WriteByte('=')
			from = b.Place
		}
	}
	out.WriteString(capitals(text[from:]))
	return out.String()
}

// capitals gives a piece of a text without small letters and without the sign that stands between small letters only.
func capitals(piece string) string {
	return strings.Map(capital, piece)
}

func capital(r rune) rune {
	switch r {
	case ':':
		return -1
	case 'c', 'n', 'o', 'p', 's':
		return r - 'a' + 'A'
	}
	return r
}
