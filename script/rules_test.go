package script

import (
	"math"
	"slices"
	"strconv"
	"testing"

	"mergelens/api"
	"mergelens/testkit"
)

// TestExtremes checks R1, R2 and R3: all functions return for any integers, with the errors that are defined.
func TestExtremes(t *testing.T) {
	for _, old := range extremes {
		for _, oldLen := range extremes {
			for _, now := range extremes {
				for _, newLen := range extremes {
					l := changes([4]int{old, oldLen, now, newLen})
					Size(l)
					Invert(l)
					compareCheck(t, l, oldLen, newLen)
					compareCheck(t, l, 2, 2)
					compareCheck(t, append(l, l...), 2, 2)
					compareCheck(t, append(changes([4]int{0, oldLen, 0, newLen}), l...), api.MaxLines, api.MaxLines)
				}
			}
		}
	}
}

// TestExtremeLengths checks the same for all numbers of lines, also of three texts.
func TestExtremeLengths(t *testing.T) {
	for _, m := range extremes {
		for _, n := range extremes {
			for _, l := range [][]api.Change{nil, changes([4]int{0, 1, 0, 1}), changes([4]int{1, 0, 1, 1}), changes([4]int{m, 0, m, n}), changes([4]int{0, m, 0, n}), changes([4]int{1, math.MaxInt, 1, math.MaxInt})} {
				compareCheck(t, l, m, n)
				for _, k := range extremes {
					want := Check(l, m, k)
					if want == api.OK {
						want = Check(l, k, n)
					}
					if got, e := Compose(l, l, m, k, n); e != want || e != api.OK && len(got) > 0 {
						t.Fatalf("R2: Compose(%v, the same, %d, %d, %d) = %v, %d, want the error %d", l, m, k, n, got, e, want)
					}
				}
			}
		}
	}
}

// TestLongLists checks R1 for lists of far more elements than there are lines.
func TestLongLists(t *testing.T) {
	for _, c := range []api.Change{{}, {NewLen: 1}, {Old: 1, OldLen: 1, New: 1}} {
		l := slices.Repeat([]api.Change{c}, 1<<20)
		if e := Check(l, 3, 3); e != api.ErrScript {
			t.Errorf("P8.1: Check of %d changes = %d", len(l), e)
		}
		if got := Invert(l); len(got) != len(l) || !slices.Equal(Invert(got), l) {
			t.Errorf("P8.3: Invert of %d changes has %d", len(l), len(got))
		}
	}
	var p []api.Span
	for i := range 1 << 20 {
		p = append(p, api.Span{From: i, To: i})
	}
	if l, e := FromPairs(p, api.MaxLines, api.MaxLines); e != api.ErrRange || len(l) > 0 {
		t.Errorf("P8.2: FromPairs of %d pairs = %v, %d", len(p), l, e)
	}
	if l, e := FromPairs(p[:api.MaxLines], api.MaxLines, api.MaxLines); e != api.OK || len(l) > 0 {
		t.Errorf("P8.2: FromPairs of %d pairs = %v, %d", api.MaxLines, l, e)
	}
}

// TestArgumentsStay checks that, as R4 says, all functions leave their arguments as they are, even behind their ends.
func TestArgumentsStay(t *testing.T) {
	x := changes([4]int{0, 1, 0, 0}, [4]int{2, 0, 1, 1}, [4]int{9, 9, 9, 9})
	y := changes([4]int{1, 1, 1, 2}, [4]int{9, 9, 9, 9})
	p := spans([2]int{0, 1}, [2]int{2, 3}, [2]int{9, 9})
	a, b := []int{5, 6, 9}, []int{6, 7, 9}
	for n := range 4 {
		l := x[:n]
		Check(l, 2, 2)
		Size(l)
		Invert(l)
		Pairs(l, 2, 2)
		Compose(l, y[:1], 2, 2, 3)
		Compose(l, y, 2, 2, 3)
		FromPairs(p[:n], 3, 4)
		Fits(l, a[:2], b[:2])
	}
	if !slices.Equal(x, changes([4]int{0, 1, 0, 0}, [4]int{2, 0, 1, 1}, [4]int{9, 9, 9, 9})) || !slices.Equal(y, changes([4]int{1, 1, 1, 2}, [4]int{9, 9, 9, 9})) {
		t.Errorf("R4: the scripts are %v and %v", x, y)
	}
	if !slices.Equal(p, spans([2]int{0, 1}, [2]int{2, 3}, [2]int{9, 9})) || !slices.Equal(a, []int{5, 6, 9}) || !slices.Equal(b, []int{6, 7, 9}) {
		t.Errorf("R4: the pairs are %v, the texts %v and %v", p, a, b)
	}
}

// TestNewLists checks R4: no list of a result shares memory with an argument or with a later result, not even beyond its length.
func TestNewLists(t *testing.T) {
	x := changes([4]int{0, 1, 0, 0}, [4]int{2, 0, 1, 1})
	p := spans([2]int{1, 0})
	lists := map[string]func() []api.Change{
		"FromPairs":                func() []api.Change { l, _ := FromPairs(p, 2, 2); return l },
		"Invert":                   func() []api.Change { return Invert(x) },
		"Compose":                  func() []api.Change { l, _ := Compose(x, Invert(x), 2, 2, 2); return l },
		"Compose, x being neutral": func() []api.Change { l, _ := Compose(nil, x, 2, 2, 2); return l },
		"Compose, y being neutral": func() []api.Change { l, _ := Compose(x, nil, 2, 2, 2); return l },
	}
	for name, f := range lists {
		want := slices.Clone(f())
		if again := f(); len(again) == 0 || !slices.Equal(again, want) {
			t.Errorf("R5: %s = %v, then %v", name, want, again)
		}
		testkit.Spoil(f(), api.Change{Old: 9})
		if got := f(); !slices.Equal(got, want) {
			t.Errorf("R4: %s = %v after a change of another result, want %v", name, got, want)
		}
	}
	pairs, _ := Pairs(x, 2, 2)
	testkit.Spoil(pairs, api.Span{From: 9})
	if again, e := Pairs(x, 2, 2); e != api.OK || !slices.Equal(again, p) {
		t.Errorf("R4: Pairs = %v, %d after a change of another result, want %v", again, e, p)
	}
}

// TestNotKept checks R4: a change of an argument after a call changes no result.
func TestNotKept(t *testing.T) {
	x := changes([4]int{0, 1, 0, 0}, [4]int{2, 0, 1, 1})
	p := spans([2]int{1, 0})
	want := slices.Clone(x)
	left, _ := Compose(nil, x, 2, 2, 2)
	right, _ := Compose(x, nil, 2, 2, 2)
	inverse := Invert(x)
	pairs, _ := Pairs(x, 2, 2)
	from, _ := FromPairs(p, 2, 2)
	testkit.Spoil(x, api.Change{Old: 9})
	testkit.Spoil(p, api.Span{From: 9})
	for _, l := range [][]api.Change{left, right, Invert(inverse), from} {
		if !slices.Equal(l, want) {
			t.Errorf("R4: a result is %v after a change of the arguments, want %v", l, want)
		}
	}
	if !slices.Equal(pairs, spans([2]int{1, 0})) {
		t.Errorf("R4: the pairs are %v after a change of the script", pairs)
	}
}

// answers collects the results of calls of all functions.
func answers() []string {
	var list testkit.Answers
	testkit.EachScript(2, func(l []api.Change, m, n int) {
		list.Add(int(Check(l, m, n)), int(Check(l, m, n+1)))
		list.Add(Size(l))
		list.AddScript(Invert(l), api.OK)
		list.AddScript(Compose(l, Invert(l), m, n, m))
		list.AddScript(Compose(l, l, m, n, m))
		p, e := Pairs(l, m, n)
		list.AddScript(FromPairs(p, m+1, n+1))
		list.AddScript(FromPairs(p, m-1, n))
		list.Add(int(e))
		list = append(list, strconv.FormatBool(Fits(l, make([]int, m), make([]int, n))))
	})
	return list
}

// TestSameResults checks R5: later calls and calls at the same time have the same results.
func TestSameResults(t *testing.T) {
	if !testkit.Same(answers) {
		t.Error("R5: other results of the same calls")
	}
}
