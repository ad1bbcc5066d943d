package automaton

import (
	"math"
	"math/rand"
	"slices"
	"testing"

	"mergelens/api"
)

// indices lists indices in and out of range of two states.
var indices = []int{0, 1, 2, -1, math.MaxInt, math.MinInt}

// valid reports whether an automaton is valid, as the chapter defines it.
func valid(a api.Automaton) bool {
	n := len(a.States)
	used := []int{a.Start}
	for _, s := range a.States {
		if s.Kind < api.StateSet || s.Kind > api.StateAccept {
			return false
		}
		if s.Kind != api.StateAccept {
			used = append(used, s.Next)
		}
		if s.Kind == api.StateSplit {
			used = append(used, s.Other)
		}
	}
	return n >= 1 && n <= 2*api.MaxStates && slices.Min(used) >= 0 && slices.Max(used) < n
}

// TestCheck compares Check with the definition for all automata of two states, of valid and wrong kinds and indices.
func TestCheck(t *testing.T) {
	var states []api.State
	for _, kind := range []int{-1, 0, 1, 2, 3, 4, 5, math.MinInt, math.MaxInt} {
		for _, next := range indices {
			for _, other := range indices {
				states = append(states, api.State{Kind: kind, Next: next, Other: other})
			}
		}
	}
	counts := map[api.Errno]int{}
	for _, first := range states {
		for _, second := range states {
			for _, start := range indices {
				for n := range 3 {
					a := api.Automaton{States: []api.State{first, second}[:n], Start: start}
					want := api.ErrArg
					if valid(a) {
						want = api.OK
					}
					counts[want]++
					if got := Check(a); got != want {
						t.Fatalf("P5.2: Check(%v) = %d, want %d", a, got, want)
					}
				}
			}
		}
	}
	if counts[api.OK] < 1000 || counts[api.ErrArg] < 1000 {
		t.Errorf("P5.2: %d automata are valid, %d are not", counts[api.OK], counts[api.ErrArg])
	}
}

// chain returns an automaton of n states, each of which splits to the next one, but for the last one, which accepts.
func chain(n int) api.Automaton {
	a := api.Automaton{States: make([]api.State, n)}
	for i := range n {
		a.States[i] = api.State{Kind: api.StateSplit, Next: i + 1}
	}
	a.States[n-1] = api.State{Kind: api.StateAccept}
	return a
}

// TestGreatestAutomata checks the limit of the states.
func TestGreatestAutomata(t *testing.T) {
	for n, want := range map[int]api.Errno{1: api.OK, 2: api.OK, 7999: api.OK, 8000: api.OK, 8001: api.ErrArg, 1 << 20: api.ErrArg} {
		a := chain(n)
		if got := Check(a); got != want {
			t.Errorf("P5.2: Check of %d states = %d, want %d", n, got, want)
		}
		if got, e := Closure(a, []int{0}, false, false); e != want || e == api.OK && len(got) != n || e != api.OK && len(got) != 0 {
			t.Errorf("P5.2: Closure in %d states has %d states, error %d, want %d", n, len(got), e, want)
		}
		a.States[n-1].Kind = api.StateEnd // leads to state 0
		if got, e := Closure(a, []int{n - 1}, true, false); e == api.OK && !slices.Equal(got, []int{n - 1}) {
			t.Errorf("P5.2: Closure from the last one of %d states = %v", n, got)
		}
		a.States[n-1].Next = n
		if got := Check(a); got != api.ErrArg {
			t.Errorf("P5.2: Check of %d states, the last one wrong, = %d", n, got)
		}
	}
}

// TestClosure checks closures that are written out.
func TestClosure(t *testing.T) {
	// From 0 to 1 and 2, from 1 at the beginning to 3, from 2 at the end to 4; 3 accepts, and has a Next; 4 reads, then goes to 0; 5 and 6 form a circle.
	a := api.Automaton{States: []api.State{{Kind: api.StateSplit, Next: 2, Other: 1}, {Kind: api.StateStart, Next: 3, Other: 5}, {Kind: api.StateEnd, Next: 4, Other: 5}, {Kind: api.StateAccept, Next: 5, Other: 5}, {Kind: api.StateSet, Other: 5}, {Kind: api.StateSplit, Next: 6, Other: 5}, {Kind: api.StateSplit, Next: 5, Other: 5}}, Start: 4}
	for _, c := range []struct {
		from       []int
		start, end bool
		want       []int
		e          api.Errno
	}{
		{nil, false, false, nil, api.OK}, {[]int{}, true, true, nil, api.OK},
		{[]int{0}, false, false, []int{0, 1, 2}, api.OK}, {[]int{0}, true, false, []int{0, 1, 2, 3}, api.OK}, {[]int{0}, false, true, []int{0, 1, 2, 4}, api.OK}, {[]int{0}, true, true, []int{0, 1, 2, 3, 4}, api.OK},
		{[]int{1}, false, true, []int{1}, api.OK}, {[]int{1}, true, false, []int{1, 3}, api.OK}, {[]int{2}, true, false, []int{2}, api.OK}, {[]int{2}, false, true, []int{2, 4}, api.OK}, {[]int{3}, true, true, []int{3}, api.OK}, {[]int{4}, true, true, []int{4}, api.OK},
		{[]int{5}, false, false, []int{5, 6}, api.OK}, {[]int{6}, false, false, []int{5, 6}, api.OK}, {[]int{6, 4, 6, 4, 1}, false, false, []int{1, 4, 5, 6}, api.OK}, {[]int{6, 5, 4, 3, 2, 1, 0}, false, false, []int{0, 1, 2, 3, 4, 5, 6}, api.OK},
		{[]int{7}, false, false, nil, api.ErrRange}, {[]int{-1}, true, true, nil, api.ErrRange}, {[]int{0, 6, 7}, true, true, nil, api.ErrRange}, {[]int{math.MaxInt, 0}, false, false, nil, api.ErrRange}, {[]int{0, math.MinInt, 0}, false, false, nil, api.ErrRange},
	} {
		if got, e := Closure(a, c.from, c.start, c.end); e != c.e || !slices.Equal(got, c.want) {
			t.Errorf("P5.2: Closure(%v, %v, %v) = %v, %d, want %v, %d", c.from, c.start, c.end, got, e, c.want, c.e)
		}
	}
	if got, e := Closure(a, slices.Repeat([]int{2, 0}, 1<<20), false, false); e != api.OK || !slices.Equal(got, []int{0, 1, 2}) {
		t.Errorf("P5.2: Closure from the same states again and again = %v, %d", got, e)
	}
	for _, wrong := range []api.Automaton{{}, {States: a.States, Start: 7}, {States: a.States[:6]}, {States: []api.State{{Kind: 5}}}} {
		for _, from := range [][]int{nil, {0}, {7}, {-1}} {
			if got, e := Closure(wrong, from, true, true); e != api.ErrArg || len(got) > 0 {
				t.Errorf("P5.2: Closure(%v, %v) = %v, %d, want %d", wrong, from, got, e, api.ErrArg)
			}
		}
	}
}

// TestExample checks the automata of the chapter's example.
func TestExample(t *testing.T) {
	if a := builtOf(t, parse(t, "a")); len(a.States) != 2 {
		t.Errorf("P5.1: Build of a has the states %v", a.States)
	}
	a := builtOf(t, parse(t, "a*"))
	got, e := Closure(a, []int{a.Start}, false, false)
	kinds := map[int]bool{}
	for _, s := range got {
		kinds[a.States[s].Kind] = true
	}
	if e != api.OK || !kinds[api.StateSet] || !kinds[api.StateAccept] {
		t.Errorf("P5.2: the closure of the start of %v is %v, %d", a, got, e)
	}
}

// reached tells for each pair of states whether the second one can be reached from the first one without reading: by no step, or by a state between them.
func reached(a api.Automaton, start, end bool) [][]bool {
	n := len(a.States)
	reach := make([][]bool, n)
	for i, s := range a.States {
		reach[i] = make([]bool, n)
		reach[i][i] = true
		switch {
		case s.Kind == api.StateSplit:
			reach[i][s.Next], reach[i][s.Other] = true, true
		case s.Kind == api.StateStart && start, s.Kind == api.StateEnd && end:
			reach[i][s.Next] = true
		}
	}
	for between := range n {
		for i := range n {
			for j := range n {
				reach[i][j] = reach[i][j] || reach[i][between] && reach[between][j]
			}
		}
	}
	return reach
}

// closureOf returns the states that are reached from some of those in from, ascending.
func closureOf(reach [][]bool, from []int) []int {
	var list []int
	for j := range reach {
		if slices.ContainsFunc(from, func(i int) bool { return reach[i][j] }) {
			list = append(list, j)
		}
	}
	return list
}

// compareClosures compares closures with the definition, and checks the consequences.
func compareClosures(t *testing.T, a api.Automaton, froms [][]int) {
	t.Helper()
	for flags := range 4 {
		start, end := flags&1 == 1, flags&2 == 2
		reach := reached(a, start, end)
		for _, from := range froms {
			got, e := Closure(a, from, start, end)
			if want := closureOf(reach, from); e != api.OK || !slices.Equal(got, want) {
				t.Fatalf("P5.2: Closure(%v, %v, %v, %v) = %v, %d, want %v", a, from, start, end, got, e, want)
			}
			if again, e := Closure(a, got, start, end); e != api.OK || !slices.Equal(again, got) {
				t.Fatalf("P5.3: the closure of %v in %v is %v, %d", got, a, again, e)
			}
			for k := range from {
				less, _ := Closure(a, from[:k], start, end)
				if slices.ContainsFunc(less, func(s int) bool { return !slices.Contains(got, s) }) {
					t.Fatalf("P5.3: the closure of %v in %v is %v, that of more states %v", from[:k], a, less, got)
				}
			}
		}
	}
}

// TestAllClosures compares closures with the definition for all automata of three states.
func TestAllClosures(t *testing.T) {
	states := []api.State{{Kind: api.StateAccept}, {Kind: api.StateSet, Next: 1, Other: 2}}
	for next := range 3 {
		states = append(states, api.State{Kind: api.StateStart, Next: next}, api.State{Kind: api.StateEnd, Next: next})
		for other := range 3 {
			states = append(states, api.State{Kind: api.StateSplit, Next: next, Other: other})
		}
	}
	froms := [][]int{nil, {0}, {1}, {2}, {2, 0}, {1, 2}, {1, 1, 0}, {0, 1, 2}}
	for _, first := range states {
		for _, second := range states {
			for _, third := range states {
				compareClosures(t, api.Automaton{States: []api.State{first, second, third}}, froms)
			}
		}
	}
}

// TestMixedClosures compares closures with the definition for larger automata.
func TestMixedClosures(t *testing.T) {
	r := rand.New(rand.NewSource(6))
	for range 2000 {
		n := 4 + r.Intn(12)
		a := api.Automaton{Start: r.Intn(n)}
		for range n {
			a.States = append(a.States, api.State{Kind: r.Intn(5), Next: r.Intn(n), Other: r.Intn(n)})
		}
		compareClosures(t, a, [][]int{{r.Intn(n)}, r.Perm(n)[:2], r.Perm(n)[:n/2]})
	}
}
