package search

import (
	"math"
	"slices"
	"strconv"
	"testing"

	"mergelens/api"
	"mergelens/automaton"
	"mergelens/testkit"
)

// extremes lists integers in and far out of range.
var extremes = []int{math.MinInt, math.MinInt32, -2, -1, 0, 1, 2, 3, 4, 5, 8000, 1 << 32, math.MaxInt - 1, math.MaxInt}

// checkErrors checks that all functions have the error of Check, or else that of the offset, and no other result with it.
func checkErrors(t *testing.T, a api.Automaton, s string, from int) {
	t.Helper()
	want := automaton.Check(a)
	whole, e := Whole(a, s)
	some, f := Any(a, s)
	all, g := All(a, s)
	if e != want || f != want || g != want || want != api.OK && (whole || some || len(all) > 0) {
		t.Fatalf("R2: of %.200v in %q: Whole = %v, %d, Any = %v, %d, All = %v, %d, want the error %d", a, s, whole, e, some, f, all, g, want)
	}
	if want == api.OK && (from < 0 || from > len(s)) {
		want = api.ErrRange
	}
	if match, ok, e := Find(a, s, from); e != want || e != api.OK && ok || !ok && match != (api.Span{}) {
		t.Fatalf("R2: Find(%.200v, %q, %d) = %v, %v, %d, want the error %d", a, s, from, match, ok, e, want)
	}
}

// TestWrongStates checks R1, R2 and R3: all functions return for any integers, with the error of Check first.
func TestWrongStates(t *testing.T) {
	for _, kind := range extremes {
		for _, next := range extremes {
			for _, other := range extremes {
				for _, start := range extremes {
					a := api.Automaton{States: []api.State{{Kind: kind, Next: next, Other: other}, {Kind: api.StateAccept}}, Start: start}
					checkErrors(t, a, "a", next)
				}
			}
		}
	}
	accept := api.State{Kind: api.StateAccept}
	for _, from := range extremes {
		for _, s := range []string{"", "abc"} {
			for _, a := range []api.Automaton{{}, {Start: 1}, {Start: from, States: []api.State{accept}}, {States: []api.State{accept}}, {States: slices.Repeat([]api.State{accept}, 8000)}, {States: slices.Repeat([]api.State{accept}, 8001)}, {States: []api.State{accept, {Kind: 5}}}} {
				checkErrors(t, a, s, from)
			}
		}
	}
}

// TestWrongOffsets checks the error of Find for offsets that are not in the text.
func TestWrongOffsets(t *testing.T) {
	a := built(t, "b*")
	for n, s := range []string{"", "a", "aa", "aab"} {
		for _, from := range extremes {
			match, ok, e := Find(a, s, from)
			if from >= 0 && from <= n {
				if !ok || match.From != from || e != api.OK {
					t.Errorf("P6.2: Find in %q from %d = %v, %v, %d", s, from, match, ok, e)
				}
			} else if ok || match != (api.Span{}) || e != api.ErrRange {
				t.Errorf("P6.2: Find in %q from %d = %v, %v, %d, want the error %d", s, from, match, ok, e, api.ErrRange)
			}
		}
	}
	for _, from := range extremes {
		if match, ok, e := Find(api.Automaton{}, "", from); match != (api.Span{}) || ok || e != api.ErrArg {
			t.Errorf("P6.2: Find without states from %d = %v, %v, %d, want the error %d", from, match, ok, e, api.ErrArg)
		}
	}
}

// TestArgumentsStay checks that, as R4 says, all functions leave their arguments as they are, even behind their ends.
func TestArgumentsStay(t *testing.T) {
	states := []api.State{{Kind: api.StateSplit, Next: 1, Other: 2}, {Set: [4]uint64{1: 1 << ('a' - 64)}, Next: 0, Other: 7}, {Kind: api.StateAccept, Next: 7}, {Kind: 9}}
	want := slices.Clone(states)
	for n := range 5 {
		a := api.Automaton{States: states[:n]}
		Whole(a, "aab")
		Any(a, "aab")
		Find(a, "aab", 1)
		All(a, "aab")
	}
	if !slices.Equal(states, want) {
		t.Errorf("R4: the states are %v, want %v", states, want)
	}
}

// TestNewLists checks R4: the list of All shares no memory with a later result, nor with the states.
func TestNewLists(t *testing.T) {
	for _, s := range []string{"", "a", "baab", "bbbbbbbbbbb"} {
		a := built(t, "a*")
		want, _ := All(a, s)
		first := slices.Clone(want)
		testkit.Spoil(want, api.Span{From: -1, To: -1})
		again, e := All(a, s)
		if e != api.OK || !slices.Equal(again, first) {
			t.Errorf("R4: All in %q = %v, %d after a change of another result, want %v", s, again, e, first)
		}
		testkit.Spoil(a.States, api.State{Kind: 9})
		if !slices.Equal(again, first) {
			t.Errorf("R4: the matches in %q are %v after a change of the states, want %v", s, again, first)
		}
	}
}

// answers collects the results of calls of all functions.
func answers() []string {
	set := [4]uint64{1: 3 << ('a' - 64)}
	// a or b, again and again, up to the end; or nothing, at the beginning
	a := api.Automaton{States: []api.State{{Kind: api.StateAccept}, {Set: set, Next: 2}, {Kind: api.StateSplit, Next: 1, Other: 3}, {Kind: api.StateEnd, Next: 0}, {Kind: api.StateStart, Next: 0}, {Kind: api.StateSplit, Next: 4, Other: 1}}, Start: 5}
	var list []string
	add := func(e api.Errno, yes bool, matches ...api.Span) {
		list = append(list, strconv.Itoa(int(e)), strconv.FormatBool(yes))
		for _, match := range matches {
			list = append(list, strconv.Itoa(match.From), strconv.Itoa(match.To))
		}
	}
	for _, s := range []string{"", "a", "abba", "c", "cab", "abc", "abcab"} {
		whole, e := Whole(a, s)
		add(e, whole)
		some, e := Any(a, s)
		add(e, some)
		all, e := All(a, s)
		add(e, true, all...)
		for from := range len(s) + 2 {
			match, ok, e := Find(a, s, from)
			add(e, ok, match)
		}
	}
	return list
}

// TestSameResults checks R5: later calls and calls at the same time have the same results.
func TestSameResults(t *testing.T) {
	if !testkit.Same(answers) {
		t.Error("R5: other results of the same calls")
	}
}
