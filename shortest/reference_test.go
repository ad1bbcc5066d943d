package shortest

import (
	"slices"
	"testing"

	"mergelens/api"
	"mergelens/script"
	"mergelens/testkit"
)

// changes returns the changes with the given fields: Old, OldLen, New and NewLen.
var changes = testkit.Changes

// numbers returns a text with one line for each byte of a string.
var numbers = testkit.Numbers

// rests returns the distances D(i, j) of the rests of a and b.
type rests func(i, j int) int

// walk is the definition of the shortest script.
func walk(a, b []int, d rests) []api.Change {
	var l []api.Change
	here := func(i, j int) *api.Change { // the change that goes on at i and j, or a new one
		last := len(l) - 1
		if last < 0 || l[last].Old+l[last].OldLen < i || l[last].New+l[last].NewLen < j {
			l = append(l, api.Change{Old: i, New: j})
			last++
		}
		return &l[last]
	}
	for i, j := 0, 0; i < len(a) || j < len(b); {
		switch {
		case i < len(a) && j < len(b) && a[i] == b[j]:
			i, j = i+1, j+1
		case i < len(a) && d(i+1, j)+1 == d(i, j):
			here(i, j).OldLen++
			i++
		default:
			here(i, j).NewLen++
			j++
		}
	}
	return l
}

// lengths returns the least number of removed and added lines and the greatest number of partners of the scripts that fit a and b, which are few: all of them are tried.
func lengths(a, b []int, all [][]api.Change) (int, int) {
	distance, common := len(a)+len(b), 0
	for _, l := range all {
		if script.Fits(l, a, b) {
			removed, added := script.Size(l)
			distance = min(distance, removed+added)
			p, _ := script.Pairs(l, len(a), len(b))
			common = max(common, len(p))
		}
	}
	return distance, common
}

// distances returns the distances of all rests by another method, also for long texts: each from those of the rests with one line less.
func distances(a, b []int) rests {
	columns := len(b) + 1
	table := make([]int16, (len(a)+1)*columns)
	for i := len(a); i >= 0; i-- {
		for j := len(b); j >= 0; j-- {
			k := i*columns + j
			switch {
			case i == len(a):
				table[k] = int16(len(b) - j)
			case j == len(b):
				table[k] = int16(len(a) - i)
			case a[i] == b[j]:
				table[k] = table[k+columns+1]
			default:
				table[k] = 1 + min(table[k+columns], table[k+1])
			}
		}
	}
	return func(i, j int) int { return int(table[i*columns+j]) }
}

// compare compares the functions with their definitions for two texts, by the distances of their rests. It returns the script.
func compare(t *testing.T, a, b []int, d rests) []api.Change {
	t.Helper()
	distance := d(0, 0)
	if got, e := Distance(a, b); e != api.OK || got != distance {
		t.Fatalf("P9.1: Distance(%v, %v) = %d, %d, want %d", testkit.Head(a), testkit.Head(b), got, e, distance)
	}
	if got, e := Common(a, b); e != api.OK || 2*got != len(a)+len(b)-distance {
		t.Fatalf("P9.3: Common(%v, %v) = %d, %d, but the distance is %d", testkit.Head(a), testkit.Head(b), got, e, distance)
	}
	got, e := Script(a, b)
	if want := walk(a, b, d); e != api.OK || !slices.Equal(got, want) {
		t.Fatalf("P9.1: Script(%v, %v) = %v, %d, want %v", testkit.Head(a), testkit.Head(b), testkit.Head(got), e, testkit.Head(want))
	}
	if removed, added := script.Size(got); !script.Fits(got, a, b) || removed+added != distance {
		t.Fatalf("P9.3: Script(%v, %v) = %v, but the distance is %d", testkit.Head(a), testkit.Head(b), testkit.Head(got), distance)
	}
	return got
}
