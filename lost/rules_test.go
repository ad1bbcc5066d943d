package lost

import (
	"math"
	"slices"
	"testing"

	"mergelens/api"
	"mergelens/testkit"
)

// TestExtremeLines checks R1 and R3: lines may be any integers, and only equal ones are merged.
func TestExtremeLines(t *testing.T) {
	extremes := []int{math.MinInt, math.MinInt + 1, -1 << 32, -1, 0, 1, 1 << 32, 1<<32 + 1, math.MaxInt - 1, math.MaxInt}
	testkit.EachList(extremes, 2, func(a []int) {
		testkit.EachList(extremes, 2, func(b []int) { compare(t, [][]int{a, b}) })
	})
	for _, x := range extremes {
		for _, y := range extremes {
			for _, z := range extremes {
				compare(t, [][]int{{x}, {y}, {z}, {x, y, z}})
			}
		}
	}
}

// TestArgumentsStay checks that, as R4 says, the functions leave their arguments as they are, even behind their ends.
func TestArgumentsStay(t *testing.T) {
	all := listsOf("abcabba", "cbabac", "bbb", "abc")
	lists := listsOf("abcabba", "cbabac", "bbb", "abc")
	for n := range len(lists) + 1 {
		Coalesce(lists[:n])
	}
	for m := range len(lists[0]) {
		Coalesce([][]int{lists[0][:m], lists[1][:m/2], lists[0][m:], lists[1][m/2:]})
	}
	if !slices.EqualFunc(lists, all, slices.Equal) {
		t.Errorf("R4: the lists are %v, not %v", lists, all)
	}
	l, _ := Coalesce(lists)
	want := slices.Clone(l)
	for n := range len(l) + 1 {
		for p := range len(lists) + 1 {
			Project(l[:n], p)
		}
	}
	if !slices.Equal(l, want) {
		t.Errorf("R4: the merged list is %v, not %v", l, want)
	}
}

// TestNewLists checks R4: no result shares memory with a later result, not even beyond its length, or changes with the arguments.
func TestNewLists(t *testing.T) {
	for _, texts := range [][]string{{"abc"}, {"abc", "abc"}, {"abc", ""}, {"", "abc"}, {"abcabba", "cbabac", "bbb"}} {
		lists := listsOf(texts...)
		want, _ := defined(lists)
		spoiled, _ := Coalesce(lists)
		testkit.Spoil(spoiled, api.Merged{Line: 1, Parents: 1})
		if got, e := Coalesce(lists); e != api.OK || !slices.Equal(got, want) {
			t.Errorf("R4: Coalesce(%v) = %v, %d after a change of another result, want %v", lists, got, e, want)
		}
		l, _ := Coalesce(lists)
		for _, list := range lists {
			testkit.Spoil(list, 1)
		}
		testkit.Spoil(lists, []int{1})
		if !slices.Equal(l, want) {
			t.Errorf("R4: the merged list is %v after a change of the lists, want %v", l, want)
		}
		first, second := Project(l, 0), Project(l, 0)
		testkit.Spoil(first, 1)
		if third := Project(l, 0); !slices.Equal(second, numbers(texts[0])) || !slices.Equal(third, second) || !slices.Equal(l, want) {
			t.Errorf("R4: Project(%v, 0) = %v and %v after a change of another result", l, second, third)
		}
		testkit.Spoil(l, api.Merged{Line: 1, Parents: 1})
		if !slices.Equal(second, numbers(texts[0])) {
			t.Errorf("R4: a change of the merged list changes the lines to %v", second)
		}
	}
}

// answers collects the results of calls of all functions.
func answers() []string {
	var list testkit.Answers
	texts := []string{"", "a", "ab", "bac", "abcabba", "cbabac", "babbababba"}
	for _, a := range texts {
		for _, b := range texts {
			for _, lists := range [][][]int{listsOf(a, b), listsOf(b, a, b, "abba"), slices.Repeat(listsOf(a, b), 17)} {
				l, e := Coalesce(lists)
				list.Add(int(e), len(l))
				for _, m := range l {
					list.Add(m.Line, int(m.Parents))
				}
				list.Add(Project(l, 1)...)
				list.Add(Project(l, 32)...)
			}
		}
	}
	return list
}

// TestSameResults checks R5: later calls and calls at the same time have the same results.
func TestSameResults(t *testing.T) {
	if !testkit.Same(answers) {
		t.Error("R5: other results of the same calls")
	}
}
