package slide

import (
	"math"
	"slices"
	"testing"

	"mergelens/api"
	"mergelens/script"
	"mergelens/testkit"
)

// changes returns the changes with the given fields: Old, OldLen, New and NewLen.
var changes = testkit.Changes

// numbers returns a text with one line for each byte of a string.
var numbers = testkit.Numbers

// isMatched reports whether the lines old and now, next to the same change of a script that fits, exist and lie outside of all changes.
func isMatched(l []api.Change, a, b []int, old, now int) bool {
	if min(old, now) < 0 || old >= len(a) || now >= len(b) {
		return false
	}
	return !slices.ContainsFunc(l, func(c api.Change) bool {
		return c.Old <= old && old < c.Old+c.OldLen || c.New <= now && now < c.New+c.NewLen
	})
}

// canMoveDown is the definition of a change that can be moved down by one line.
func canMoveDown(l []api.Change, a, b []int, k int) bool {
	c := l[k]
	old, now := c.Old+c.OldLen, c.New+c.NewLen // the line that follows
	if !isMatched(l, a, b, old, now) || slices.ContainsFunc(l, func(d api.Change) bool { return d.Old == old+1 && d.New == now+1 }) {
		return false
	}
	switch {
	case c.NewLen == 0:
		return a[c.Old] == a[old]
	case c.OldLen == 0:
		return b[c.New] == b[now]
	}
	return false
}

// canMoveUp is the definition of a change that can be moved up by one line.
func canMoveUp(l []api.Change, a, b []int, k int) bool {
	c := l[k]
	old, now := c.Old-1, c.New-1 // the line that precedes
	if !isMatched(l, a, b, old, now) || slices.ContainsFunc(l, func(d api.Change) bool { return d.Old+d.OldLen == old && d.New+d.NewLen == now }) {
		return false
	}
	switch {
	case c.NewLen == 0:
		return a[c.Old+c.OldLen-1] == a[old]
	case c.OldLen == 0:
		return b[c.New+c.NewLen-1] == b[now]
	}
	return false
}

// direction is one of the two in which changes move.
type direction struct {
	name string
	all  func(l []api.Change, a, b []int) ([]api.Change, api.Errno) // the function that is tested
	step int                                                        // what a move adds to Old and New
	can  func(l []api.Change, a, b []int, k int) bool
}

func up() direction   { return direction{"Up", Up, -1, canMoveUp} }
func down() direction { return direction{"Down", Down, 1, canMoveDown} }

// slide moves change k as often as it can be moved, and returns how often that is.
func (d direction) slide(l []api.Change, a, b []int, k int) int {
	times := 0
	for d.can(l, a, b, k) {
		l[k].Old += d.step
		l[k].New += d.step
		times++
	}
	return times
}

// moved is the definition of the result of Down or Up.
func (d direction) moved(l []api.Change, a, b []int) []api.Change {
	l = slices.Clone(l)
	for k := range l {
		if d.step > 0 {
			k = len(l) - 1 - k // the last one is the first
		}
		d.slide(l, a, b, k)
	}
	return l
}

// compare compares all functions with their definitions for a script that fits, and checks the consequences.
func compare(t *testing.T, l []api.Change, a, b []int) {
	t.Helper()
	removed, added := script.Size(l)
	for _, d := range []direction{up(), down()} {
		got, e := d.all(l, a, b)
		if want := d.moved(l, a, b); e != api.OK || !slices.Equal(got, want) {
			t.Fatalf("P10.1: %s(%v, %v, %v) = %v, %d, want %v", d.name, testkit.Head(l), testkit.Head(a), testkit.Head(b), testkit.Head(got), e, testkit.Head(want))
		}
		if r, s := script.Size(got); !script.Fits(got, a, b) || len(got) != len(l) || r != removed || s != added {
			t.Fatalf("P10.3: %s(%v, %v, %v) = %v", d.name, testkit.Head(l), testkit.Head(a), testkit.Head(b), testkit.Head(got))
		}
		if again, e := d.all(got, a, b); e != api.OK || !slices.Equal(again, got) {
			t.Fatalf("P10.3: %s(%v, %v, %v) = %v, %d", d.name, testkit.Head(got), testkit.Head(a), testkit.Head(b), testkit.Head(again), e)
		}
	}
	for k := range l {
		wantUp, wantDown := up().slide(slices.Clone(l), a, b, k), down().slide(slices.Clone(l), a, b, k)
		if gotUp, gotDown, e := Room(l, a, b, k); e != api.OK || gotUp != wantUp || gotDown != wantDown {
			t.Fatalf("P10.2: Room(%v, %v, %v, %d) = %d, %d, %d, want %d, %d", testkit.Head(l), testkit.Head(a), testkit.Head(b), k, gotUp, gotDown, e, wantUp, wantDown)
		}
	}
	checkIndices(t, l, a, b, api.ErrRange, []int{math.MinInt, -1 << 32, -1, len(l), len(l) + 1, 1 << 32, math.MaxInt})
}

// checkIndices checks that Room returns an error, and no numbers, for some k.
func checkIndices(t *testing.T, l []api.Change, a, b []int, want api.Errno, indices []int) {
	t.Helper()
	for _, k := range indices {
		if gotUp, gotDown, e := Room(l, a, b, k); e != want || gotUp != 0 || gotDown != 0 {
			t.Fatalf("P10.2: Room(%v, %v, %v, %d) = %d, %d, %d, want the error %d", testkit.Head(l), testkit.Head(a), testkit.Head(b), k, gotUp, gotDown, e, want)
		}
	}
}

// compareAny does the same as compare if the script fits, and checks the errors of all functions if it does not.
func compareAny(t *testing.T, l []api.Change, a, b []int) {
	t.Helper()
	if script.Fits(l, a, b) {
		compare(t, l, a, b)
		return
	}
	for _, d := range []direction{up(), down()} {
		if got, e := d.all(l, a, b); e != api.ErrScript || len(got) > 0 {
			t.Fatalf("chapter 10: %s(%v, %v, %v) = %v, %d, want the error %d", d.name, testkit.Head(l), testkit.Head(a), testkit.Head(b), testkit.Head(got), e, api.ErrScript)
		}
	}
	checkIndices(t, l, a, b, api.ErrScript, []int{math.MinInt, -1, 0, len(l) - 1, len(l), math.MaxInt})
}
