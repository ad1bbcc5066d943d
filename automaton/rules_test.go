package automaton

import (
	"math"
	"slices"
	"strconv"
	"testing"

	"mergelens/api"
	"mergelens/regex"
	"mergelens/testkit"
)

// extremes lists integers in and far out of range.
var extremes = []int{math.MinInt, math.MinInt32, -2, -1, 0, 1, 2, 5, 6, 7, 100, 101, 1 << 32, math.MaxInt}

// samples lists patterns of all kinds of nodes.
var samples = []string{"", "a", "ab|cd|", "^a.[^b]$", "(a|b*)+", "((a?){2,5}|^){3,}$", "a{0}", "(a{100}){40}"}

// TestWrongNodes checks R1, R2 and R3: Build returns for any integers, with the error of regex.Check, or else that of the weight.
func TestWrongNodes(t *testing.T) {
	for _, kind := range extremes {
		for _, least := range extremes {
			for _, most := range extremes {
				for _, kid := range extremes {
					n := api.Node{Kind: kind, Min: least, Max: most, Kids: []int{kid, 0}[:1+kind&1]}
					for _, l := range [][]api.Node{{n}, {{}, n}, {n, {}}} {
						want := regex.Check(l)
						if a, e := Build(l); e != want || e == api.OK && Check(a) != api.OK || e != api.OK && (a.Start != 0 || len(a.States) > 0) {
							t.Fatalf("R2: Build(%v) = %v, %d, want %d", l, a, e, want)
						}
					}
				}
			}
		}
	}
}

// TestWrongStates checks R1, R2 and R3: Check and Closure return for any integers, and there are no states with an error.
func TestWrongStates(t *testing.T) {
	for _, kind := range extremes {
		for _, next := range extremes {
			for _, other := range extremes {
				for _, start := range extremes {
					a := api.Automaton{States: []api.State{{Kind: kind, Next: next, Other: other}, {Kind: api.StateAccept}}, Start: start}
					e := Check(a)
					for _, from := range extremes {
						got, f := Closure(a, []int{1, from}, true, true)
						want := e
						if e == api.OK && (from < 0 || from > 1) {
							want = api.ErrRange
						}
						if f != want || f != api.OK && len(got) > 0 || f == api.OK && len(got) == 0 {
							t.Fatalf("R2: Check(%v) = %d, Closure from %d = %v, %d, want %d", a, e, from, got, f, want)
						}
					}
				}
			}
		}
	}
}

// TestArgumentsStay checks that, as R4 says, all functions leave their arguments as they are, even behind their ends.
func TestArgumentsStay(t *testing.T) {
	kids := []int{1, 0, 2}
	nodes := []api.Node{{Kind: api.NodeSet}, {Kind: api.NodeRepeat, Kids: []int{0}}, {Kind: api.NodeCat, Kids: kids[:2]}, {Kind: 9}}
	if _, e := Build(nodes[:3]); e != api.OK {
		t.Fatalf("R4: Build has the error %d", e)
	}
	Build(nodes)
	if !slices.Equal(kids, []int{1, 0, 2}) || nodes[2].Kind != api.NodeCat || len(nodes[2].Kids) != 2 || nodes[1].Kids[0] != 0 || nodes[3].Kind != 9 {
		t.Errorf("R4: the nodes are %v, the kids %v", nodes, kids)
	}
	states := []api.State{{Kind: api.StateSplit, Next: 1, Other: 0}, {Kind: api.StateAccept, Next: 7}, {Kind: 9}}
	want := slices.Clone(states)
	from := []int{1, 0, 1, 5}
	for n := range 4 {
		a := api.Automaton{States: states[:n]}
		Check(a)
		Closure(a, from[:3], true, true)
		Closure(a, from, true, true)
	}
	if !slices.Equal(states, want) || !slices.Equal(from, []int{1, 0, 1, 5}) {
		t.Errorf("R4: the states are %v, the list is %v", states, from)
	}
}

// TestNewLists checks R4: no list of a result shares memory with an argument or with a later result, not even beyond its length.
func TestNewLists(t *testing.T) {
	nodes := parse(t, samples[3])
	a, _ := Build(nodes)
	want := slices.Clone(a.States)
	testkit.Spoil(a.States, api.State{Kind: 9})
	if again, e := Build(nodes); e != api.OK || !slices.Equal(again.States, want) {
		t.Errorf("R4: Build = %v, %d after a change of another result", again, e)
	}
	a.States = want
	from := []int{0, 1, 2}
	got, _ := Closure(a, from, true, true)
	first := slices.Clone(got)
	testkit.Spoil(got, 99)
	if again, e := Closure(a, from, true, true); e != api.OK || !slices.Equal(again, first) || !slices.Equal(from, []int{0, 1, 2}) {
		t.Errorf("R4: Closure(%v) = %v, %d after a change of another result, want %v", from, again, e, first)
	}
}

// TestNotKept checks R4: a change of the nodes after a call changes no result.
func TestNotKept(t *testing.T) {
	nodes := parse(t, samples[4])
	a, _ := Build(nodes)
	want := slices.Clone(a.States)
	for i := range nodes {
		testkit.Spoil(nodes[i].Kids, 99)
	}
	testkit.Spoil(nodes, api.Node{Kind: 9})
	if !slices.Equal(a.States, want) {
		t.Errorf("R4: the states are %v after a change of the nodes, want %v", a.States, want)
	}
}

// answers collects the results of calls of all functions.
func answers() []string {
	var list []string
	for _, pattern := range samples {
		l, _ := regex.Parse(pattern)
		a, e := Build(l)
		list = append(list, strconv.Itoa(int(e)), strconv.Itoa(int(Check(a))), strconv.Itoa(a.Start))
		for _, s := range a.States {
			list = append(list, strconv.Itoa(s.Kind), strconv.Itoa(s.Next), strconv.Itoa(s.Other), strconv.FormatUint(s.Set[1], 16))
		}
		for _, start := range []bool{false, true} {
			states, e := Closure(a, []int{a.Start, len(a.States) - 1, 0}, start, !start)
			list = append(list, strconv.Itoa(int(e)))
			for _, s := range states {
				list = append(list, strconv.Itoa(s))
			}
		}
	}
	return list
}

// TestSameResults checks R5: later calls and calls at the same time have the same results.
func TestSameResults(t *testing.T) {
	if !testkit.Same(answers) {
		t.Error("R5: other results of the same calls")
	}
}

// TestUnusedFields checks R6: the fields that a kind does not use are zero.
func TestUnusedFields(t *testing.T) {
	lists := [][]api.Node{{{Kind: api.NodeStart, Set: [4]uint64{1, 2, 3, 4}, Min: 5, Max: 6}}, {{Set: [4]uint64{1, 2, 3, 4}}, {Kind: api.NodeRepeat, Set: [4]uint64{1}, Max: 2, Kids: []int{0}}}}
	for _, pattern := range samples {
		lists = append(lists, parse(t, pattern))
	}
	for _, l := range lists {
		for _, s := range builtOf(t, l).States {
			if s.Kind != api.StateSet && s.Set != [4]uint64{} || s.Kind != api.StateSplit && s.Other != 0 || s.Kind == api.StateAccept && s.Next != 0 {
				t.Errorf("R6: Build(%.200v) has the state %v", l, s)
			}
		}
	}
}
