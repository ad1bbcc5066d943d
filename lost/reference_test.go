package lost

import (
	"slices"
	"testing"

	"mergelens/api"
	"mergelens/script"
	"mergelens/shortest"
	"mergelens/testkit"
)

// numbers returns a list with one line for each byte of a string.
var numbers = testkit.Numbers

// listsOf returns the lists whose lines are the bytes of the strings.
func listsOf(texts ...string) [][]int {
	var lists [][]int
	for _, s := range texts {
		lists = append(lists, numbers(s))
	}
	return lists
}

// heads returns the first lines of the first lists, for messages.
func heads(lists [][]int) [][]int {
	var some [][]int
	for _, list := range testkit.Head(lists) {
		some = append(some, testkit.Head(list))
	}
	return some
}

// repeated returns a list of equal lines.
func repeated(line, length int) []int {
	return slices.Repeat([]int{line}, length)
}

// defined is the definition of Coalesce, by the partners of the shortest scripts. It keeps the parents of each element as a list.
func defined(lists [][]int) ([]api.Merged, api.Errno) {
	if len(lists) > api.MaxParents || len(lists) > 0 && len(lists[0]) > api.MaxLines {
		return nil, api.ErrLimit
	}
	var lines []int
	var parents [][]int
	for p, list := range lists {
		if p == 0 {
			lines, parents = list, slices.Repeat([][]int{{0}}, len(list))
			continue
		}
		s, e := shortest.Script(lines, list)
		if e != api.OK {
			return nil, api.ErrLimit
		}
		pairs, _ := script.Pairs(s, len(lines), len(list))
		lines, parents = alongPairs(lines, parents, list, p, pairs)
	}
	var l []api.Merged
	for i, line := range lines {
		m := api.Merged{Line: line}
		for _, p := range parents[i] {
			m.Parents += 1 << p
		}
		l = append(l, m)
	}
	return l, api.OK
}

// alongPairs merges the elements before each pair of partners, then the list before it, then the partners. What follows the last pair comes before an end that both have.
func alongPairs(lines []int, parents [][]int, list []int, p int, pairs []api.Span) ([]int, [][]int) {
	var newLines []int
	var newParents [][]int
	i, j := 0, 0
	for _, pair := range append(slices.Clone(pairs), api.Span{From: len(lines), To: len(list)}) {
		for ; i < pair.From; i++ {
			newLines, newParents = append(newLines, lines[i]), append(newParents, parents[i])
		}
		for ; j < pair.To; j++ {
			newLines, newParents = append(newLines, list[j]), append(newParents, []int{p})
		}
		if i < len(lines) {
			newLines, newParents = append(newLines, lines[i]), append(newParents, append(slices.Clone(parents[i]), p))
		}
		i, j = i+1, j+1
	}
	return newLines, newParents
}

// projected is the definition of Project.
func projected(l []api.Merged, p int) []int {
	var list []int
	for _, m := range l {
		rest := uint64(m.Parents)
		for bit := 0; rest > 0; bit++ {
			if rest%2 == 1 && bit == p {
				list = append(list, m.Line)
			}
			rest /= 2
		}
	}
	return list
}

// compare compares the functions with their definitions for lists that are coalesced without an error. It returns the merged list.
func compare(t *testing.T, lists [][]int) []api.Merged {
	t.Helper()
	l, e := Coalesce(lists)
	if want, f := defined(lists); e != api.OK || f != api.OK || !slices.Equal(l, want) {
		t.Fatalf("P15.1: Coalesce(%v) = %v, %d, want %v, %d", heads(lists), testkit.Head(l), e, testkit.Head(want), f)
	}
	for p, list := range lists {
		if got := Project(l, p); !slices.Equal(got, list) {
			t.Fatalf("P15.3: Project(Coalesce(%v), %d) = %v, not list %d", heads(lists), p, testkit.Head(got), p)
		}
	}
	for _, p := range []int{len(lists), api.MaxParents - 1, api.MaxParents, -1} {
		if got := Project(l, p); len(got) > 0 && p != len(lists)-1 {
			t.Fatalf("P15.2: Project(Coalesce(%v), %d) = %v, though there is no such list", heads(lists), p, testkit.Head(got))
		}
	}
	if slices.ContainsFunc(l, func(m api.Merged) bool { return m.Parents == 0 }) {
		t.Fatalf("P15.3: Coalesce(%v) = %v has an element without parents", heads(lists), testkit.Head(l))
	}
	return l
}
