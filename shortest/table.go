package shortest

import (
	"math/bits"
	"slices"
)

// lineSet is a set of lines of a text, 64 in a word. They are counted from the end of the text, so that the carries of an addition go from a line to the one before it.
type lineSet []uint64

// table tells for all rests of a and b which of the lines of a are spare.
type table struct {
	lines   int       // of a
	columns []lineSet // for the rests of b from each line on: the spare lines of a
}

// newTable returns the table of a and b. It begins with the empty rest of b, for which all lines of a are spare.
func newTable(a, b []int) table {
	places := placesOf(a)
	column := slices.Repeat(lineSet{^uint64(0)}, wordsFor(len(a)))
	columns := make([]lineSet, len(b)+1)
	columns[len(b)] = column
	for j := len(b) - 1; j >= 0; j-- {
		if equal, ok := places[b[j]]; ok {
			column = column.before(equal)
		}
		columns[j] = column
	}
	return table{lines: len(a), columns: columns}
}

// spare reports whether the rests of a from i on and of b from j on have no more partners than those of a from i + 1 on and of b from j on: D(i + 1, j) + 1 is equal to D(i, j) exactly then.
func (t table) spare(i, j int) bool {
	word, bit := place(i, t.lines)
	return t.columns[j][word]&bit != 0
}

// before returns the column for the rest of b with one more line, to which the given lines of a are equal.
//
// The greatest number of partners increases at each line that is not spare. Such a line and the spare lines after it, up to the next such line, form a block, in which the increase moves to the last line that is equal to the new line of b, if there is one; before all blocks, the last such line is a further increase. The addition does so in all blocks at once: it carries from this line to the beginning of the block, whose bit is 0. Spare lines that are not equal remain spare.
func (column lineSet) before(equal lineSet) lineSet {
	next := make(lineSet, len(column))
	var sum, carry uint64
	for w, spare := range column {
		sum, carry = bits.Add64(spare, spare&equal[w], carry)
		next[w] = sum | spare&^equal[w]
	}
	return next
}

// placesOf returns the lines of a that have each number.
func placesOf(a []int) map[int]lineSet {
	places := map[int]lineSet{}
	for i, id := range a {
		if places[id] == nil {
			places[id] = make(lineSet, wordsFor(len(a)))
		}
		word, bit := place(i, len(a))
		places[id][word] |= bit
	}
	return places
}

// wordsFor returns the number of words of a set of so many lines.
func wordsFor(lines int) int {
	return (lines + 63) / 64
}

// place returns the word and the bit of the line i of so many lines.
func place(i, lines int) (int, uint64) {
	fromEnd := lines - 1 - i
	return fromEnd / 64, 1 << (fromEnd % 64)
}
