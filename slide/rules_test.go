package slide

import (
	"math"
	"slices"
	"testing"

	"mergelens/api"
	"mergelens/testkit"
)

// TestNoScripts checks the first error of all functions, for lists that are no scripts for the texts or do not fit them.
func TestNoScripts(t *testing.T) {
	const most = api.MaxLines
	more := make([]int, most+1)
	for _, x := range []struct {
		l    []api.Change
		a, b []int
	}{
		{nil, nil, numbers("a")}, {nil, numbers("a"), nil}, {nil, numbers("a"), numbers("b")}, {changes([4]int{0, 0, 0, 1}), nil, nil}, {changes([4]int{0, 0, 0, 0}), nil, nil}, {changes([4]int{1, 0, 1, 0}), numbers("aa"), numbers("aa")}, {changes([4]int{-1, 1, -1, 0}), numbers("aa"), numbers("a")}, {changes([4]int{1, -1, 1, 0}), numbers("aa"), numbers("aaa")}, {changes([4]int{0, 1, 1, 0}), numbers("aa"), numbers("a")}, {changes([4]int{2, 1, 2, 0}), numbers("aa"), numbers("a")},
		{changes([4]int{0, 1, 0, 0}, [4]int{1, 1, 0, 0}), numbers("aaa"), numbers("a")}, {changes([4]int{2, 1, 1, 0}, [4]int{0, 1, 0, 0}), numbers("aaa"), numbers("a")}, {changes([4]int{0, 1, 0, 0}, [4]int{9, 1, 8, 0}), numbers("aaa"), numbers("a")}, {changes([4]int{1, 1, 1, 0}), numbers("aab"), numbers("aa")}, {changes([4]int{1, 1, 1, 0}), numbers("baa"), numbers("aa")},
		{nil, more, more}, {changes([4]int{0, 1, 0, 0}), more, more[1:]}, {changes([4]int{0, 0, 0, 1}), more[1:], more}, {changes([4]int{0, most + 1, 0, 0}), more, nil},
	} {
		compareAny(t, x.l, x.a, x.b)
		if _, e := Down(x.l, x.a, x.b); e != api.ErrScript {
			t.Errorf("chapter 10: Down(%v, %v, %v) has the error %d", x.l, testkit.Head(x.a), testkit.Head(x.b), e)
		}
	}
	if moved, e := Down(nil, more[1:], more[1:]); e != api.OK || len(moved) > 0 {
		t.Errorf("P10.1: Down of no changes in %d lines = %v, %d", most, moved, e)
	}
}

// TestExtremeChanges checks R1, R2 and R3: all functions return for any integers, with the errors that are defined.
func TestExtremeChanges(t *testing.T) {
	extremes := []int{math.MinInt, -1 << 32, -1, 0, 1, 2, 3, api.MaxLines, 1 << 32, math.MaxInt - 1, math.MaxInt}
	a, b := numbers("aaab"), numbers("aab")
	for _, old := range extremes {
		for _, oldLen := range extremes {
			for _, now := range extremes {
				for _, newLen := range extremes {
					l := changes([4]int{old, oldLen, now, newLen})
					compareAny(t, l, a, b)
					compareAny(t, l, b, a)
					compareAny(t, append(changes([4]int{0, 1, 0, 0}), l...), a, b)
				}
			}
		}
	}
}

// TestArgumentsStay checks that, as R4 says, all functions leave their arguments as they are, even behind their ends.
func TestArgumentsStay(t *testing.T) {
	all := changes([4]int{1, 0, 1, 1}, [4]int{3, 1, 4, 0}, [4]int{9, 9, 9, 9})
	l, a, b := slices.Clone(all), numbers("aaaaaax"), numbers("aaaaaax")
	for n := range len(all) + 1 {
		for m := range len(a) + 1 {
			Down(l[:n], a[:m], b[:m])
			Up(l[:n], a[:m], b[:m])
			Room(l[:n], a[:m], b[:m], n-1)
		}
	}
	if !slices.Equal(l, all) || !slices.Equal(a, numbers("aaaaaax")) || !slices.Equal(b, numbers("aaaaaax")) {
		t.Errorf("R4: the script is %v, the texts are %v and %v", l, a, b)
	}
}

// TestNewLists checks R4: no result shares memory with an argument or with another result, not even beyond its length, whether a change moves or not.
func TestNewLists(t *testing.T) {
	upper := changes([4]int{0, 0, 0, 1}, [4]int{1, 1, 2, 0})
	lower := changes([4]int{3, 0, 3, 1}, [4]int{4, 1, 5, 0})
	for _, d := range []direction{up(), down()} {
		want := upper
		if d.step > 0 {
			want = lower
		}
		for _, start := range [][]api.Change{upper, lower} {
			l, a, b := slices.Clone(start), numbers("aaaaa"), numbers("aaaaa")
			spoiled, _ := d.all(l, a, b)
			testkit.Spoil(spoiled, api.Change{Old: 9})
			got, e := d.all(l, a, b)
			if e != api.OK || !slices.Equal(got, want) {
				t.Errorf("R4: %s(%v) = %v, %d after a change of another result, want %v", d.name, start, got, e, want)
			}
			testkit.Spoil(l, api.Change{Old: 9})
			testkit.Spoil(a, 9)
			testkit.Spoil(b, 8)
			if !slices.Equal(got, want) {
				t.Errorf("R4: %s(%v) is %v after a change of the arguments, want %v", d.name, start, got, want)
			}
		}
	}
}

// answers collects the results of calls of all functions.
func answers() []string {
	var list testkit.Answers
	testkit.EachScript(4, func(l []api.Change, m, n int) {
		for _, text := range []string{"aaaa", "abab", "aaba"} {
			a, b := numbers(text)[:m], numbers(text)[:n]
			list.AddScript(Down(l, a, b))
			list.AddScript(Up(l, a, b))
			for k := range len(l) + 1 {
				up, down, e := Room(l, a, b, k)
				list.Add(up, down, int(e))
			}
		}
	})
	return list
}

// TestSameResults checks R5: later calls and calls at the same time have the same results.
func TestSameResults(t *testing.T) {
	if !testkit.Same(answers) {
		t.Error("R5: other results of the same calls")
	}
}
