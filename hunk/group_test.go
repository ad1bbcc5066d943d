package hunk

import (
	"math/rand"
	"slices"
	"testing"

	"mergelens/api"
	"mergelens/script"
	"mergelens/testkit"
)

// TestGroup checks results that are written out.
func TestGroup(t *testing.T) {
	example := changes([4]int{2, 1, 2, 1}, [4]int{6, 0, 6, 1}) // of the chapter
	three := changes([4]int{1, 1, 1, 0}, [4]int{4, 0, 3, 2}, [4]int{9, 3, 10, 1})
	for _, x := range []struct {
		l             []api.Change
		m, n, context int
		want          []api.Hunk
	}{
		{nil, 0, 0, 0, nil}, {nil, 5, 5, 3, nil}, {changes(), 5, 5, api.MaxContext, nil},
		{example, 10, 11, 0, hunks([6]int{0, 1, 2, 3, 2, 3}, [6]int{1, 2, 6, 6, 6, 7})}, {example, 10, 11, 1, hunks([6]int{0, 1, 1, 4, 1, 4}, [6]int{1, 2, 5, 7, 5, 8})}, {example, 10, 11, 2, hunks([6]int{0, 2, 0, 8, 0, 9})}, {example, 10, 11, 3, hunks([6]int{0, 2, 0, 9, 0, 10})}, {example, 10, 11, 4, hunks([6]int{0, 2, 0, 10, 0, 11})}, {example, 10, 11, 5, hunks([6]int{0, 2, 0, 10, 0, 11})}, {example, 10, 11, api.MaxContext, hunks([6]int{0, 2, 0, 10, 0, 11})},
		// The whole text changes, or one of the texts is empty.
		{changes([4]int{0, 2, 0, 3}), 2, 3, 0, hunks([6]int{0, 1, 0, 2, 0, 3})}, {changes([4]int{0, 2, 0, 3}), 2, 3, 7, hunks([6]int{0, 1, 0, 2, 0, 3})}, {changes([4]int{0, 0, 0, 1}), 0, 1, 3, hunks([6]int{0, 1, 0, 0, 0, 1})}, {changes([4]int{0, 1, 0, 0}), 1, 0, 3, hunks([6]int{0, 1, 0, 1, 0, 0})},
		// Changes at the beginning and at the end.
		{changes([4]int{0, 1, 0, 0}), 5, 4, 2, hunks([6]int{0, 1, 0, 3, 0, 2})}, {changes([4]int{0, 0, 0, 1}), 5, 6, 2, hunks([6]int{0, 1, 0, 2, 0, 3})}, {changes([4]int{4, 1, 4, 0}), 5, 4, 2, hunks([6]int{0, 1, 2, 5, 2, 4})}, {changes([4]int{5, 0, 5, 1}), 5, 6, 2, hunks([6]int{0, 1, 3, 5, 3, 6})}, {changes([4]int{5, 0, 5, 1}), 5, 6, 0, hunks([6]int{0, 1, 5, 5, 5, 6})},
		{changes([4]int{0, 1, 0, 0}, [4]int{5, 0, 4, 1}), 5, 5, 1, hunks([6]int{0, 1, 0, 2, 0, 1}, [6]int{1, 2, 4, 5, 3, 5})}, {changes([4]int{0, 1, 0, 0}, [4]int{5, 0, 4, 1}), 5, 5, 2, hunks([6]int{0, 2, 0, 5, 0, 5})},
		// Less context than asked for, on one side only.
		{changes([4]int{1, 1, 1, 1}), 9, 9, 3, hunks([6]int{0, 1, 0, 5, 0, 5})}, {changes([4]int{7, 1, 7, 1}), 9, 9, 3, hunks([6]int{0, 1, 4, 9, 4, 9})}, {changes([4]int{1, 1, 1, 4}), 3, 6, 1, hunks([6]int{0, 1, 0, 3, 0, 6})},
		// Only matched lines between two changes count, not those that the changes remove or add.
		{changes([4]int{0, 1, 0, 0}, [4]int{2, 1, 1, 0}), 4, 2, 0, hunks([6]int{0, 1, 0, 1, 0, 0}, [6]int{1, 2, 2, 3, 1, 1})}, {changes([4]int{0, 1, 0, 0}, [4]int{2, 1, 1, 0}), 4, 2, 1, hunks([6]int{0, 2, 0, 4, 0, 2})}, {changes([4]int{0, 90, 0, 1}, [4]int{92, 1, 3, 90}), 94, 94, 1, hunks([6]int{0, 2, 0, 94, 0, 94})}, {changes([4]int{0, 90, 0, 1}, [4]int{93, 1, 4, 90}), 95, 95, 1, hunks([6]int{0, 1, 0, 91, 0, 2}, [6]int{1, 2, 92, 95, 3, 95})},
		// Old and new positions differ after the first hunk.
		{three, 13, 12, 0, hunks([6]int{0, 1, 1, 2, 1, 1}, [6]int{1, 2, 4, 4, 3, 5}, [6]int{2, 3, 9, 12, 10, 11})}, {three, 13, 12, 1, hunks([6]int{0, 2, 0, 5, 0, 6}, [6]int{2, 3, 8, 13, 9, 12})}, {three, 13, 12, 2, hunks([6]int{0, 2, 0, 6, 0, 7}, [6]int{2, 3, 7, 13, 8, 12})}, {three, 13, 12, 3, hunks([6]int{0, 3, 0, 13, 0, 12})},
	} {
		if h := compareGroup(t, x.l, x.m, x.n, x.context); !slices.Equal(h, x.want) {
			t.Errorf("P11.1: Group(%v, %d, %d, %d) = %v, want %v", x.l, x.m, x.n, x.context, h, x.want)
		}
	}
}

// TestAllScripts compares Group with the definition for all short scripts.
func TestAllScripts(t *testing.T) {
	testkit.EachScript(7, func(l []api.Change, m, n int) {
		for context := -1; context <= max(m, n)+1; context++ {
			compareGroup(t, l, m, n, context)
		}
		compareGroup(t, l, m, n, api.MaxContext)
		compareGroup(t, l, m, n, api.MaxContext+1)
	})
}

// mixed returns a script with changes that are from near to far from each other, and the numbers of the lines of its texts.
func mixed(r *rand.Rand) (l []api.Change, m, n int) {
	gap := 1 + r.Intn(40)
	m = r.Intn(gap)
	n = m
	for range r.Intn(30) {
		c := api.Change{Old: m, New: n, OldLen: r.Intn(4), NewLen: r.Intn(4)}
		if c.OldLen+c.NewLen == 0 {
			c.NewLen = gap
		}
		l = append(l, c)
		kept := 1 + r.Intn(gap)
		m, n = m+c.OldLen+kept, n+c.NewLen+kept
	}
	if len(l) > 0 && r.Intn(3) == 0 { // without lines after the last change
		c := l[len(l)-1]
		m, n = c.Old+c.OldLen, c.New+c.NewLen
	}
	return l, m, n
}

// TestMixedScripts compares Group with the definition for longer scripts.
func TestMixedScripts(t *testing.T) {
	r := rand.New(rand.NewSource(11))
	several := 0
	for range 10000 {
		l, m, n := mixed(r)
		if e := script.Check(l, m, n); e != api.OK {
			t.Fatalf("%v is no script for %d and %d lines", l, m, n)
		}
		if h := compareGroup(t, l, m, n, r.Intn(24)); len(h) > 2 && len(h)+2 < len(l) {
			several++
		}
		compareGroup(t, l, m, n+1, 3)
	}
	if several < 1000 {
		t.Errorf("only %d scripts have several hunks and several changes in them", several)
	}
}

// TestGaps checks a script with gaps of 1, 2, 3 and more lines: each context joins the changes at the gaps of at most twice as many lines.
func TestGaps(t *testing.T) {
	const changed = 80
	var l []api.Change
	old, now := 0, 0
	for k := range changed {
		old, now = old+k, now+k
		l = append(l, api.Change{Old: old, OldLen: k % 2, New: now, NewLen: 1})
		old, now = old+k%2, now+1
	}
	for context := range changed {
		h := compareGroup(t, l, old, now, context)
		first := min(2*context+1, changed) // changes of the first hunk
		if len(h) != changed-first+1 || h[0].First != 0 || h[0].Last != first {
			t.Errorf("P11.1: Group with %d lines of context has %d hunks, want %d", context, len(h), changed-first+1)
		}
	}
}

// TestLongestTexts checks texts of as many lines as possible.
func TestLongestTexts(t *testing.T) {
	const most = api.MaxLines
	ends := changes([4]int{0, 1, 0, 1}, [4]int{most - 1, 1, most - 1, 1})
	middle := changes([4]int{2000, 0, 2000, 1})
	for _, x := range []struct {
		l             []api.Change
		m, n, context int
		want          []api.Hunk
	}{
		{nil, most, most, 3, nil}, {changes([4]int{0, most, 0, most}), most, most, 3, hunks([6]int{0, 1, 0, most, 0, most})}, {changes([4]int{0, most, 0, 0}), most, 0, 3, hunks([6]int{0, 1, 0, most, 0, 0})}, {changes([4]int{0, 0, 0, most}), 0, most, 3, hunks([6]int{0, 1, 0, 0, 0, most})},
		// There are 4094 lines between the changes.
		{ends, most, most, 2046, hunks([6]int{0, 1, 0, 2047, 0, 2047}, [6]int{1, 2, 2049, most, 2049, most})}, {ends, most, most, 2047, hunks([6]int{0, 2, 0, most, 0, most})},
		{middle, most - 1, most, 1999, hunks([6]int{0, 1, 1, 3999, 1, 4000})}, {middle, most - 1, most, 2000, hunks([6]int{0, 1, 0, 4000, 0, 4001})}, {middle, most - 1, most, 2094, hunks([6]int{0, 1, 0, 4094, 0, 4095})}, {middle, most - 1, most, 2095, hunks([6]int{0, 1, 0, 4095, 0, most})}, {middle, most - 1, most, most, hunks([6]int{0, 1, 0, 4095, 0, most})}, {middle, most - 1, most, api.MaxContext, hunks([6]int{0, 1, 0, 4095, 0, most})},
	} {
		if h := compareGroup(t, x.l, x.m, x.n, x.context); !slices.Equal(h, x.want) {
			t.Errorf("P11.1: Group(%v, %d, %d, %d) = %v, want %v", x.l, x.m, x.n, x.context, h, x.want)
		}
	}
}

// TestManyChanges checks a script of as many changes as possible.
func TestManyChanges(t *testing.T) {
	const most = api.MaxLines
	var l []api.Change
	var single []api.Hunk
	for k := range most / 2 {
		l = append(l, changes([4]int{2 * k, 1, k, 0})...)
		single = append(single, hunks([6]int{k, k + 1, 2 * k, 2*k + 1, k, k})...)
	}
	if h, e := Group(l, most, most/2, 0); e != api.OK || !slices.Equal(h, single) {
		t.Errorf("P11.1: Group of %d changes without context = %v, %d", len(l), testkit.Head(h), e)
	}
	if h, e := Group(l, most, most/2, 1); e != api.OK || !slices.Equal(h, hunks([6]int{0, most / 2, 0, most, 0, most / 2})) {
		t.Errorf("P11.1: Group of %d changes with a line of context = %v, %d", len(l), testkit.Head(h), e)
	}
}
