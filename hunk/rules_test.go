package hunk

import (
	"math"
	"slices"
	"strconv"
	"testing"

	"mergelens/api"
	"mergelens/testkit"
)

// TestOrderOfErrors checks both errors of Group for all contexts, of lists that are scripts and of lists that are none.
func TestOrderOfErrors(t *testing.T) {
	const most = api.MaxLines
	for _, x := range []struct {
		l    []api.Change
		m, n int
		ok   bool
	}{
		{nil, 3, 3, true}, {nil, most, most, true}, {changes([4]int{1, 1, 1, 0}), 3, 2, true}, {nil, 3, 4, false}, {nil, -1, -1, false}, {nil, most + 1, most + 1, false}, {nil, math.MinInt, math.MaxInt, false}, {changes([4]int{1, 1, 1, 0}), 3, 3, false}, {changes([4]int{1, 0, 1, 0}), 3, 3, false}, {changes([4]int{0, 1, 0, 1}, [4]int{1, 1, 1, 1}), 3, 3, false}, {changes([4]int{-1, 1, -1, 0}), 3, 2, false}, {changes([4]int{3, 1, 3, 0}), 3, 2, false}, {changes([4]int{0, most + 1, 0, 0}), most + 1, 0, false},
	} {
		for _, context := range extremes {
			want := api.OK
			switch {
			case context < 0 || context > api.MaxContext:
				want = api.ErrRange
			case !x.ok:
				want = api.ErrScript
			}
			if h, e := Group(x.l, x.m, x.n, context); e != want || e != api.OK && len(h) > 0 {
				t.Errorf("P11.1: Group(%v, %d, %d, %d) = %v, %d, want the error %d", x.l, x.m, x.n, context, h, e, want)
			}
		}
	}
}

// TestExtremeChanges checks R1, R2 and R3: Group returns for any integers, with the hunks or the error that are defined.
func TestExtremeChanges(t *testing.T) {
	for _, old := range extremes {
		for _, oldLen := range extremes {
			for _, now := range extremes {
				for _, newLen := range extremes {
					l := changes([4]int{old, oldLen, now, newLen})
					compareGroup(t, l, 3, 2, 1)
					compareGroup(t, l, oldLen, newLen, 0)
					compareGroup(t, append(changes([4]int{0, 1, 0, 0}), l...), 3, 2, 1)
				}
			}
		}
	}
}

// TestExtremeLengths checks the same for all numbers of lines and of context.
func TestExtremeLengths(t *testing.T) {
	for _, m := range extremes {
		for _, n := range extremes {
			for _, context := range extremes {
				for _, l := range [][]api.Change{nil, changes([4]int{0, 1, 0, 1}), changes([4]int{1, 0, 1, 1}), changes([4]int{m, 0, m, n}), changes([4]int{0, m, 0, n}), changes([4]int{1, math.MaxInt, 1, math.MaxInt})} {
					compareGroup(t, l, m, n, context)
				}
			}
		}
	}
}

// TestLongLists checks R1 for lists of far more changes than a text has lines.
func TestLongLists(t *testing.T) {
	for _, c := range []api.Change{{}, {NewLen: 1}, {Old: 1, OldLen: 1, New: 1}} {
		l := slices.Repeat([]api.Change{c}, 1<<20)
		if h, e := Group(l, api.MaxLines, api.MaxLines, 3); e != api.ErrScript || len(h) > 0 {
			t.Errorf("P11.1: Group of %d changes = %v, %d", len(l), testkit.Head(h), e)
		}
	}
}

// TestArgumentsStay checks that, as R4 says, both functions leave their arguments as they are, even behind their ends.
func TestArgumentsStay(t *testing.T) {
	all := changes([4]int{1, 0, 1, 1}, [4]int{4, 1, 5, 0}, [4]int{9, 9, 9, 9})
	spans := olds([2]int{4, 9}, [2]int{-3, 2}, [2]int{9, 9})
	l, h := slices.Clone(all), slices.Clone(spans)
	for n := range len(all) + 1 {
		for context := range 4 {
			Group(l[:n], 7, 7, context)
		}
		Cover(h[:n], 7)
	}
	if !slices.Equal(l, all) || !slices.Equal(h, spans) {
		t.Errorf("R4: the changes are %v, the hunks are %v", l, h)
	}
}

// TestNewLists checks R4: no result shares memory with an argument or with another result, not even beyond its length.
func TestNewLists(t *testing.T) {
	want := hunks([6]int{0, 1, 0, 2, 0, 3}, [6]int{1, 2, 3, 6, 4, 6})
	l := changes([4]int{1, 0, 1, 1}, [4]int{4, 1, 5, 0})
	spoiled, _ := Group(l, 7, 7, 1)
	testkit.Spoil(spoiled, api.Hunk{First: 9})
	h, e := Group(l, 7, 7, 1)
	if e != api.OK || !slices.Equal(h, want) {
		t.Errorf("R4: Group = %v, %d after a change of another result, want %v", h, e, want)
	}
	testkit.Spoil(l, api.Change{Old: 9})
	if !slices.Equal(h, want) {
		t.Errorf("R4: the hunks are %v after a change of the script, want %v", h, want)
	}

	lines := []bool{true, true, false, true, true, true, false}
	testkit.Spoil(Cover(h, 7), true)
	cover := Cover(h, 7)
	if !slices.Equal(cover, lines) {
		t.Errorf("R4: Cover = %v after a change of another result, want %v", cover, lines)
	}
	testkit.Spoil(h, api.Hunk{})
	if !slices.Equal(cover, lines) {
		t.Errorf("R4: the lines are %v after a change of the hunks, want %v", cover, lines)
	}
}

// answers collects the results of calls of both functions.
func answers() []string {
	var list testkit.Answers
	testkit.EachScript(4, func(l []api.Change, m, n int) {
		for context := -1; context < 4; context++ {
			h, e := Group(l, m, n, context)
			list.Add(int(e), len(h))
			for _, x := range h {
				list.Add(x.First, x.Last, x.Old.From, x.Old.To, x.New.From, x.New.To)
			}
			for _, yes := range Cover(h, m) {
				list = append(list, strconv.FormatBool(yes))
			}
		}
	})
	return list
}

// TestSameResults checks R5: later calls and calls at the same time have the same results.
func TestSameResults(t *testing.T) {
	if !testkit.Same(answers) {
		t.Error("R5: other results of the same calls")
	}
}
