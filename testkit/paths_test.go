package testkit

import (
	"slices"
	"testing"

	"mergelens/api"
)

func TestContains(t *testing.T) {
	set := [4]uint64{1 << 10, 1 << 33, 0, 1 << 63}
	var got []int
	for b := range 256 {
		if Contains(set, byte(b)) {
			got = append(got, b)
		}
	}
	if !slices.Equal(got, []int{'\n', 'a', 0xff}) {
		t.Errorf("the set %v contains %v", set, got)
	}
}

func TestEnds(t *testing.T) {
	// From 1 to 0 and 2; 0 reads a, then goes to 1; from 2 at the beginning to 3, from 3 at the end to 4; 4 accepts.
	a := api.Automaton{States: []api.State{{Set: [4]uint64{1: 1 << ('a' - 64)}, Next: 1}, {Kind: api.StateSplit, Next: 0, Other: 2}, {Kind: api.StateStart, Next: 3}, {Kind: api.StateEnd, Next: 4}, {Kind: api.StateAccept}}, Start: 1}
	for _, c := range []struct {
		start, other int // Start, and Other of state 1
		s            string
		want         []int // the ends from the offset 0
	}{
		{4, 2, "a", []int{0}}, {3, 2, "", []int{0}}, {3, 2, "a", nil}, {2, 2, "", []int{0}}, {2, 2, "a", nil},
		{1, 4, "aab", []int{0, 1, 2}}, {1, 4, "b", []int{0}}, {1, 3, "aa", []int{2}}, {1, 3, "ab", nil}, {1, 2, "a", nil}, {0, 4, "aa", []int{1, 2}}, {0, 4, "", nil},
	} {
		a.Start, a.States[1].Other = c.start, c.other
		if got := Ends(a, c.s, 0); !slices.Equal(got, c.want) {
			t.Errorf("Ends from state %d in %q = %v, want %v", c.start, c.s, got, c.want)
		}
	}
	a.Start, a.States[1].Other = 1, 4
	if got := Ends(a, "aaba", 1); !slices.Equal(got, []int{1, 2}) {
		t.Errorf("Ends from the offset 1 = %v", got)
	}
}
