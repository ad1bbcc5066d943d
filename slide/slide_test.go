package slide

import (
	"math"
	"math/rand"
	"slices"
	"testing"

	"mergelens/api"
	"mergelens/script"
	"mergelens/testkit"
)

// example is a script, the texts that it fits, and what the functions return for it.
type example struct {
	a, b string
	l    []api.Change
	down []api.Change
	up   []api.Change
	room [][2]int // for each change, how often it can be moved up and down
}

// check checks all functions.
func (x example) check(t *testing.T) {
	t.Helper()
	a, b := numbers(x.a), numbers(x.b)
	if got, e := Down(x.l, a, b); e != api.OK || !slices.Equal(got, x.down) {
		t.Errorf("P10.1: Down(%v, %q, %q) = %v, %d, want %v", x.l, x.a, x.b, got, e, x.down)
	}
	if got, e := Up(x.l, a, b); e != api.OK || !slices.Equal(got, x.up) {
		t.Errorf("P10.1: Up(%v, %q, %q) = %v, %d, want %v", x.l, x.a, x.b, got, e, x.up)
	}
	for k, want := range x.room {
		if up, down, e := Room(x.l, a, b, k); e != api.OK || up != want[0] || down != want[1] {
			t.Errorf("P10.2: Room(%v, %q, %q, %d) = %d, %d, %d, want %v", x.l, x.a, x.b, k, up, down, e, want)
		}
	}
}

// TestOneChange checks results that are written out, of scripts with no or one change.
func TestOneChange(t *testing.T) {
	for _, x := range []example{
		{"", "", nil, nil, nil, nil}, {"aa", "aa", nil, nil, nil, nil},
		// The example of the chapter, and the same with a removal.
		{"12", "112", changes([4]int{0, 0, 0, 1}), changes([4]int{1, 0, 1, 1}), changes([4]int{0, 0, 0, 1}), [][2]int{{0, 1}}},
		{"112", "12", changes([4]int{0, 1, 0, 0}), changes([4]int{1, 1, 1, 0}), changes([4]int{0, 1, 0, 0}), [][2]int{{0, 1}}},
		// There is no line after the end, and none before the beginning.
		{"aa", "aaa", changes([4]int{2, 0, 2, 1}), changes([4]int{2, 0, 2, 1}), changes([4]int{0, 0, 0, 1}), [][2]int{{2, 0}}},
		{"aaa", "aa", changes([4]int{2, 1, 2, 0}), changes([4]int{2, 1, 2, 0}), changes([4]int{0, 1, 0, 0}), [][2]int{{2, 0}}},
		{"", "aa", changes([4]int{0, 0, 0, 2}), changes([4]int{0, 0, 0, 2}), changes([4]int{0, 0, 0, 2}), [][2]int{{0, 0}}},
		{"aa", "", changes([4]int{0, 2, 0, 0}), changes([4]int{0, 2, 0, 0}), changes([4]int{0, 2, 0, 0}), [][2]int{{0, 0}}},
		// Other lines stop a change, on both sides.
		{"xaay", "xaaay", changes([4]int{2, 0, 2, 1}), changes([4]int{3, 0, 3, 1}), changes([4]int{1, 0, 1, 1}), [][2]int{{1, 1}}},
		{"xaaay", "xaay", changes([4]int{2, 1, 2, 0}), changes([4]int{3, 1, 3, 0}), changes([4]int{1, 1, 1, 0}), [][2]int{{1, 1}}},
		{"ab", "b", changes([4]int{0, 1, 0, 0}), changes([4]int{0, 1, 0, 0}), changes([4]int{0, 1, 0, 0}), [][2]int{{0, 0}}},
		// Of several lines, the first one is compared on the way down, and the last one on the way up.
		{"ababa", "aba", changes([4]int{1, 2, 1, 0}), changes([4]int{3, 2, 3, 0}), changes([4]int{0, 2, 0, 0}), [][2]int{{1, 2}}},
		{"aba", "ababa", changes([4]int{1, 0, 1, 2}), changes([4]int{3, 0, 3, 2}), changes([4]int{0, 0, 0, 2}), [][2]int{{1, 2}}},
		{"abb", "b", changes([4]int{0, 2, 0, 0}), changes([4]int{0, 2, 0, 0}), changes([4]int{0, 2, 0, 0}), [][2]int{{0, 0}}},
		{"b", "bba", changes([4]int{1, 0, 1, 2}), changes([4]int{1, 0, 1, 2}), changes([4]int{1, 0, 1, 2}), [][2]int{{0, 0}}},
		{"xyzxy", "xy", changes([4]int{0, 3, 0, 0}), changes([4]int{2, 3, 2, 0}), changes([4]int{0, 3, 0, 0}), [][2]int{{0, 2}}},
		{"xy", "xyzxy", changes([4]int{2, 0, 2, 3}), changes([4]int{2, 0, 2, 3}), changes([4]int{0, 0, 0, 3}), [][2]int{{2, 0}}},
		// A change that removes and adds does not move.
		{"aaa", "aba", changes([4]int{1, 1, 1, 1}), changes([4]int{1, 1, 1, 1}), changes([4]int{1, 1, 1, 1}), [][2]int{{0, 0}}},
		{"aaa", "aaaa", changes([4]int{1, 1, 1, 2}), changes([4]int{1, 1, 1, 2}), changes([4]int{1, 1, 1, 2}), [][2]int{{0, 0}}},
	} {
		x.check(t)
	}
}

// TestSeveralChanges checks results that are written out, of scripts with more changes.
func TestSeveralChanges(t *testing.T) {
	for _, x := range []example{
		// One line stays between two changes.
		{"aaab", "aaaa", changes([4]int{0, 0, 0, 1}, [4]int{3, 1, 4, 0}), changes([4]int{2, 0, 2, 1}, [4]int{3, 1, 4, 0}), changes([4]int{0, 0, 0, 1}, [4]int{3, 1, 4, 0}), [][2]int{{0, 2}, {0, 0}}},
		{"baaa", "aaaa", changes([4]int{0, 1, 0, 0}, [4]int{4, 0, 3, 1}), changes([4]int{0, 1, 0, 0}, [4]int{4, 0, 3, 1}), changes([4]int{0, 1, 0, 0}, [4]int{2, 0, 1, 1}), [][2]int{{0, 0}, {2, 0}}},
		// On the way down the last change is the first one to move, on the way up the first one.
		{"aaaa", "aaaaaa", changes([4]int{0, 0, 0, 1}, [4]int{1, 0, 2, 1}), changes([4]int{3, 0, 3, 1}, [4]int{4, 0, 5, 1}), changes([4]int{0, 0, 0, 1}, [4]int{1, 0, 2, 1}), [][2]int{{0, 0}, {0, 3}}},
		{"aaaa", "aaaaaa", changes([4]int{3, 0, 3, 1}, [4]int{4, 0, 5, 1}), changes([4]int{3, 0, 3, 1}, [4]int{4, 0, 5, 1}), changes([4]int{0, 0, 0, 1}, [4]int{1, 0, 2, 1}), [][2]int{{3, 0}, {0, 0}}},
		{"aaaaa", "aaa", changes([4]int{1, 1, 1, 0}, [4]int{3, 1, 2, 0}), changes([4]int{2, 1, 2, 0}, [4]int{4, 1, 3, 0}), changes([4]int{0, 1, 0, 0}, [4]int{2, 1, 1, 0}), [][2]int{{1, 0}, {0, 1}}},
		// A change that can't be moved stops those beside it.
		{"aaaaa", "aaazaaa", changes([4]int{1, 0, 1, 1}, [4]int{2, 1, 3, 1}, [4]int{4, 0, 5, 1}), changes([4]int{1, 0, 1, 1}, [4]int{2, 1, 3, 1}, [4]int{5, 0, 6, 1}), changes([4]int{0, 0, 0, 1}, [4]int{2, 1, 3, 1}, [4]int{4, 0, 5, 1}), [][2]int{{1, 0}, {0, 0}, {0, 1}}},
		// A change never goes past another one, and its lines are compared with matched ones only.
		{"xaxbx", "xxx", changes([4]int{1, 1, 1, 0}, [4]int{3, 1, 2, 0}), changes([4]int{1, 1, 1, 0}, [4]int{3, 1, 2, 0}), changes([4]int{1, 1, 1, 0}, [4]int{3, 1, 2, 0}), [][2]int{{0, 0}, {0, 0}}},
		{"aa", "aaaaa", changes([4]int{0, 0, 0, 1}, [4]int{1, 0, 2, 1}, [4]int{2, 0, 4, 1}), changes([4]int{0, 0, 0, 1}, [4]int{1, 0, 2, 1}, [4]int{2, 0, 4, 1}), changes([4]int{0, 0, 0, 1}, [4]int{1, 0, 2, 1}, [4]int{2, 0, 4, 1}), [][2]int{{0, 0}, {0, 0}, {0, 0}}},
	} {
		x.check(t)
	}
}

// TestAllTexts compares all functions with their definitions for all short texts and all scripts for as many lines, most of which do not fit.
func TestAllTexts(t *testing.T) {
	for alphabet, length := range map[string]int{"abc": 4, "ab": 5} {
		var texts [][]int
		testkit.Texts(alphabet, length, func(s string) { texts = append(texts, numbers(s)) })
		for m := range length + 1 {
			for n := range length + 1 {
				for _, l := range testkit.Scripts(m, n) {
					for _, a := range texts {
						for _, b := range texts {
							if len(a) == m && len(b) == n {
								compareAny(t, l, a, b)
							}
						}
					}
				}
			}
		}
	}
}

// TestEqualLines compares all functions with their definitions for somewhat longer texts whose lines are all equal: only changes stop a change in them.
func TestEqualLines(t *testing.T) {
	testkit.EachScript(7, func(l []api.Change, m, n int) {
		compare(t, l, make([]int, m), make([]int, n))
	})
}

// mixed returns a script and texts that it fits. Most lines are the same as those some lines before them, so that changes can be moved far.
func mixed(r *rand.Rand) (l []api.Change, a, b []int) {
	period, different := 1+r.Intn(4), 1+r.Intn(3)
	line := func(text []int) int {
		if len(text) >= period && r.Intn(6) > 0 {
			return text[len(text)-period]
		}
		return r.Intn(different)
	}
	for k := range r.Intn(7) {
		for range min(k, 1) + r.Intn(7) {
			x := line(a)
			a, b = append(a, x), append(b, x)
		}
		c := api.Change{Old: len(a), New: len(b), OldLen: r.Intn(4), NewLen: r.Intn(4)}
		if r.Intn(4) > 0 { // a pure change
			c.OldLen, c.NewLen = c.OldLen*(c.NewLen%2), c.NewLen*(1-c.NewLen%2)
		}
		if c.OldLen+c.NewLen == 0 {
			c.NewLen = period
		}
		for range c.OldLen {
			a = append(a, line(a))
		}
		for range c.NewLen {
			b = append(b, line(b))
		}
		l = append(l, c)
	}
	for range r.Intn(7) {
		x := line(a)
		a, b = append(a, x), append(b, x)
	}
	return l, a, b
}

// TestMixedTexts compares all functions with their definitions for longer texts.
func TestMixedTexts(t *testing.T) {
	r := rand.New(rand.NewSource(10))
	far := 0
	for range 20000 {
		l, a, b := mixed(r)
		if !script.Fits(l, a, b) {
			t.Fatalf("the script %v does not fit %v and %v", l, a, b)
		}
		compare(t, l, a, b)
		for k := range l {
			if up, down, _ := Room(l, a, b, k); min(up, down) > 1 {
				far++
			}
		}
		compareAny(t, l, a, append(b, 0))
		if len(a) > 0 {
			a[r.Intn(len(a))]--
			compareAny(t, l, a, b)
		}
	}
	if far < 1000 {
		t.Errorf("only %d changes could be moved far", far)
	}
}

// TestExtremeNumbers checks R3: lines are equal only if all bits of their numbers are.
func TestExtremeNumbers(t *testing.T) {
	odd := []int{math.MinInt, math.MinInt + 1, -1 << 32, -1 << 31, -1, 0, 1, 1 << 31, 1 << 32, 1 << 62, math.MaxInt - 1, math.MaxInt}
	for _, x := range odd {
		for _, y := range odd {
			for _, z := range odd {
				long, short := []int{x, y, z}, []int{x, z}
				compareAny(t, changes([4]int{1, 1, 1, 0}), long, short)
				compareAny(t, changes([4]int{1, 0, 1, 1}), short, long)
				compareAny(t, changes([4]int{1, 0, 1, 1}), []int{y, z}, long)
			}
		}
	}
}

// TestLongestTexts compares all functions with their definitions for texts of as many lines as possible.
func TestLongestTexts(t *testing.T) {
	const most = api.MaxLines
	equal, period := make([]int, most), make([]int, most)
	for i := range period {
		period[i] = i % 5
	}
	compare(t, changes([4]int{0, 1, 0, 0}), equal, equal[1:])
	compare(t, changes([4]int{most - 1, 0, most - 1, 1}), equal[1:], equal)
	compare(t, changes([4]int{100, 50, 100, 0}), period, period[50:])
	compare(t, changes([4]int{100, 50, 100, 0}, [4]int{1000, 0, 950, 50}), period, period)
	compare(t, changes([4]int{2000, 0, 2000, 1000}), period[1000:], period)
	compare(t, changes([4]int{0, most, 0, 0}), equal, nil)
	compare(t, changes([4]int{0, 0, 0, most - 1}), equal[1:2], equal)
	if got, e := Down(changes([4]int{0, 1, 0, 0}), equal, equal[1:]); e != api.OK || !slices.Equal(got, changes([4]int{most - 1, 1, most - 1, 0})) {
		t.Errorf("P10.1: Down in equal lines = %v, %d", got, e)
	}
}

// TestManyChanges checks scripts of as many changes as possible, and of many changes that wait for others to move first.
func TestManyChanges(t *testing.T) {
	const most = api.MaxLines
	equal := make([]int, most)
	var upper, top, bottom []api.Change
	for k := range most / 2 {
		upper = append(upper, api.Change{Old: 2 * k, OldLen: 1, New: k})
	}
	const many = most / 4
	for k := range many {
		top = append(top, api.Change{Old: k, New: 2 * k, NewLen: 1})
		bottom = append(bottom, api.Change{Old: most - 2*many + 1 + k, New: most - 2*many + 1 + 2*k, NewLen: 1})
	}
	lower := slices.Clone(upper)
	for k := range lower {
		lower[k].Old++
		lower[k].New++
	}
	for _, x := range []struct {
		l, down, up []api.Change
		m, n        int
	}{{upper, lower, upper, most, most / 2}, {lower, lower, upper, most, most / 2}, {top, bottom, top, most - many, most}, {bottom, bottom, top, most - many, most}} {
		if got, e := Down(x.l, equal[:x.m], equal[:x.n]); e != api.OK || !slices.Equal(got, x.down) {
			t.Errorf("P10.1: Down of %d changes = %v, %d, want %v", len(x.l), testkit.Head(got), e, testkit.Head(x.down))
		}
		if got, e := Up(x.l, equal[:x.m], equal[:x.n]); e != api.OK || !slices.Equal(got, x.up) {
			t.Errorf("P10.1: Up of %d changes = %v, %d, want %v", len(x.l), testkit.Head(got), e, testkit.Head(x.up))
		}
	}
}
