package automaton

import (
	"math/rand"
	"regexp"
	"slices"
	"strings"
	"testing"

	"mergelens/api"
	"mergelens/regex"
	"mergelens/testkit"
)

// parse returns the nodes of a pattern.
func parse(t *testing.T, pattern string) []api.Node {
	l, e := regex.Parse(pattern)
	if e != api.OK {
		t.Fatalf("Parse(%q) has the error %d", pattern, e)
	}
	return l
}

// textsOf returns all texts of at most length bytes of an alphabet.
func textsOf(alphabet string, length int) []string {
	var list []string
	testkit.Texts(alphabet, length, func(s string) { list = append(list, s) })
	return list
}

// builtOf builds an automaton, and checks what P5.1 says of its states.
func builtOf(t *testing.T, l []api.Node) api.Automaton {
	t.Helper()
	weight, _ := regex.Weight(l)
	a, e := Build(l)
	if e != api.OK || Check(a) != api.OK || len(a.States) > weight+1 {
		t.Fatalf("P5.1: Build(%.300v) has %d states for the weight %d, error %d, Check %d", l, len(a.States), weight, e, Check(a))
	}
	return a
}

// compare compares the automaton of some nodes with their language in the given texts.
func compare(t *testing.T, l []api.Node, texts []string) {
	t.Helper()
	a := builtOf(t, l)
	for _, s := range texts {
		if got, want := accepted(a, s), language(l, s); got != want {
			t.Fatalf("P5.1: Build(%.300v) accepts %b in %q, want %b", l, got, s, want)
		}
	}
}

// TestBuild checks pairs that are written out.
func TestBuild(t *testing.T) {
	for _, c := range []struct {
		pattern, s string
		want       [][]int // for each offset i, the offsets j of the pairs (i, j)
	}{
		{"", "", [][]int{{0}}}, {"", "ab", [][]int{{0}, {1}, {2}}},
		{"a", "", [][]int{nil}}, {"a", "aba", [][]int{{1}, nil, {3}, nil}}, {".", "\x00\xff", [][]int{{1}, {2}, nil}}, {"[^a]", "ab\n", [][]int{nil, {2}, {3}, nil}},
		{"ab", "aab", [][]int{nil, {3}, nil, nil}}, {"a||ab", "ab", [][]int{{0, 1, 2}, {1}, {2}}}, {"a|b|ab", "ab", [][]int{{1, 2}, {2}, nil}}, {"(a|ab)(b|)", "abb", [][]int{{1, 2, 3}, nil, nil, nil}},
		{"^", "a", [][]int{{0}, nil}}, {"$", "a", [][]int{nil, {1}}}, {"^$", "", [][]int{{0}}}, {"^$", "a", [][]int{nil, nil}}, {"$^", "", [][]int{{0}}}, {"a^b", "ab", [][]int{nil, nil, nil}}, {"a$|^b", "ba", [][]int{{1}, {2}, nil}}, {"^^a$$", "a", [][]int{{1}, nil}},
		{"(^a|b)*", "aab", [][]int{{0, 1}, {1}, {2, 3}, {3}}}, {"(a|$){2}", "aa", [][]int{{2}, {2}, {2}}}, {"(^){100}a", "aa", [][]int{{1}, nil, nil}}, {"(^)*", "a", [][]int{{0}, {1}}}, {"($)+", "a", [][]int{nil, {1}}},
		{"a*", "baa", [][]int{{0}, {1, 2, 3}, {2, 3}, {3}}}, {"a+", "baa", [][]int{nil, {2, 3}, {3}, nil}}, {"a?", "aa", [][]int{{0, 1}, {1, 2}, {2}}},
		{"a{2}", "aaa", [][]int{{2}, {3}, nil, nil}}, {"a{2,}", "aaa", [][]int{{2, 3}, {3}, nil, nil}}, {"a{1,2}", "aaa", [][]int{{1, 2}, {2, 3}, {3}, nil}}, {"a{0}", "a", [][]int{{0}, {1}}}, {"a{0}b", "ab", [][]int{nil, {2}, nil}}, {"a{0,2}", "aaa", [][]int{{0, 1, 2}, {1, 2, 3}, {2, 3}, {3}}},
		{"(ab?){2}", "aba", [][]int{{3}, nil, nil, nil}}, {"(ab|a){1,2}", "aba", [][]int{{1, 2, 3}, nil, {3}, nil}}, {"(aa)*", "aaa", [][]int{{0, 2}, {1, 3}, {2}, {3}}}, {"(aa|aaa){2,}", "aaaaaa", [][]int{{4, 5, 6}, {5, 6}, {6}, nil, nil, nil, nil}},
		{"(a*)*", "ab", [][]int{{0, 1}, {1}, {2}}}, {"(a*)+", "ab", [][]int{{0, 1}, {1}, {2}}}, {"(a*){3}", "aa", [][]int{{0, 1, 2}, {1, 2}, {2}}}, {"(|a)+b", "aab", [][]int{{3}, {3}, {3}, nil}}, {"()*", "a", [][]int{{0}, {1}}}, {"((a{0})*b)*", "b", [][]int{{0, 1}, {1}}},
		{"a{100}", "aaa", [][]int{nil, nil, nil, nil}}, {"a{0,100}", "aa", [][]int{{0, 1, 2}, {1, 2}, {2}}},
	} {
		a := builtOf(t, parse(t, c.pattern))
		for i, want := range c.want {
			if got := testkit.Ends(a, c.s, i); !slices.Equal(got, want) {
				t.Errorf("P5.1: Build of %q accepts in %q from %d to %v, want %v", c.pattern, c.s, i, got, want)
			}
		}
	}
}

// TestBuildOfAllPatterns compares automata with another implementation, and with the language, for all short patterns.
func TestBuildOfAllPatterns(t *testing.T) {
	texts := textsOf("ab", 4)
	for _, alphabet := range []string{"ab|*()", "a|(^$)+", "ab?+.|"} {
		testkit.Texts(alphabet, 5, func(pattern string) {
			l, e := regex.Parse(pattern)
			if e != api.OK {
				return
			}
			like := regexp.MustCompile("^(?:" + pattern + ")$")
			a := builtOf(t, l)
			for _, s := range texts {
				if got := slices.Contains(testkit.Ends(a, s, 0), len(s)); got != like.MatchString(s) {
					t.Fatalf("P5.1: Build of %q accepts the whole of %q: %v", pattern, s, got)
				}
			}
			compare(t, l, texts[:7])
		})
	}
}

// choices lists nodes that are valid at the index i.
func choices(i int) []api.Node {
	list := []api.Node{{}, {Kind: api.NodeSet, Set: [4]uint64{1: 1 << ('a' - 64)}}, {Kind: api.NodeSet, Set: [4]uint64{1: 3 << ('a' - 64)}}, {Kind: api.NodeSet}, {Kind: api.NodeStart}, {Kind: api.NodeEnd}}
	for k := range i {
		for _, kids := range [][]int{{k, 0}, {0, i - 1, k}, {k, i - 1}} {
			list = append(list, api.Node{Kind: api.NodeCat, Kids: kids}, api.Node{Kind: api.NodeAlt, Kids: kids})
		}
		for _, b := range [][2]int{{0, -1}, {1, -1}, {2, -1}, {0, 0}, {0, 1}, {1, 1}, {1, 3}, {2, 2}} {
			list = append(list, api.Node{Kind: api.NodeRepeat, Min: b[0], Max: b[1], Kids: []int{k}})
		}
	}
	return list
}

// TestBuildOfAllLists compares automata with the language for all lists of at most three nodes.
func TestBuildOfAllLists(t *testing.T) {
	texts := textsOf("ab", 3)
	var extend func(l []api.Node)
	extend = func(l []api.Node) {
		for _, n := range choices(len(l)) {
			longer := append(slices.Clone(l), n)
			compare(t, longer, texts)
			if len(longer) < 3 {
				extend(longer)
			}
		}
	}
	extend(nil)
}

// TestBuildOfMixedLists compares automata with the language for longer lists of nodes.
func TestBuildOfMixedLists(t *testing.T) {
	r := rand.New(rand.NewSource(5))
	texts := append(textsOf("ab", 3), "abababa", "aaaaaaa", "abbaabb", "babbbab", "aacabba")
	for range 4000 {
		var l []api.Node
		for len(l) < 4+r.Intn(6) {
			list := choices(len(l))
			if len(l) > 1 {
				list = list[4:] // rarely a leaf
			}
			l = append(l, list[r.Intn(len(list))])
		}
		if weight, _ := regex.Weight(l); weight < 500 {
			compare(t, l, texts)
		}
	}
}

// TestGreatestWeight checks the limit of the weight.
func TestGreatestWeight(t *testing.T) {
	for _, c := range []struct {
		pattern string
		want    api.Errno
		longest int // the length of the only text of a that the pattern matches as a whole
	}{
		{"(a{100}){40}", api.OK, 4000}, {"(a{100}){39}a{99}", api.OK, 3999}, {"(a{100}){40}a{0}", api.OK, 4000}, {"((a{100}){100}){0}a", api.OK, 1},
		{"(a{100}){40}a", api.ErrLimit, 0}, {"(a{100}){41}", api.ErrLimit, 0}, {"((a{100}){100}){100}", api.ErrLimit, 0}, {"(a{100}){20}(a?){99}a{100}a{100}", api.OK, -1}, {"((a{100}){40})?", api.ErrLimit, 0}, {"((a{100}){40})*", api.ErrLimit, 0}, {"(a{100}){40}|a", api.ErrLimit, 0}, {"(((((((a{100}){100}){100}){100}){100}){100}){100}){100}", api.ErrLimit, 0},
	} {
		l := parse(t, c.pattern)
		a, e := Build(l)
		if e != c.want || e != api.OK && (len(a.States) > 0 || a.Start != 0) {
			t.Errorf("P5.1: Build of %q has %d states, error %d, want %d", c.pattern, len(a.States), e, c.want)
		}
		if e != api.OK {
			continue
		}
		builtOf(t, l)
		if got := testkit.Ends(a, strings.Repeat("a", 4005), 0); c.longest >= 0 && !slices.Equal(got, []int{c.longest}) {
			t.Errorf("P5.1: Build of %q accepts %v, want %d", c.pattern, got, c.longest)
		}
	}
}

// tower returns nodes each of which has the one before it as a kid, as n says.
func tower(first []api.Node, height int, n api.Node, kids int) []api.Node {
	l := slices.Clone(first)
	for range height {
		n.Kids = slices.Repeat([]int{len(l) - 1}, kids)
		l = append(l, n)
	}
	return l
}

// TestSharedKids checks kids that count many times, and those of the weight 0, of which there may be more than any number of steps.
func TestSharedKids(t *testing.T) {
	a := []api.Node{{Kind: api.NodeSet, Set: [4]uint64{1: 1 << ('a' - 64)}}}
	blank := append(slices.Clone(a), api.Node{Kind: api.NodeRepeat, Kids: []int{0}})
	cat, five, once := api.Node{Kind: api.NodeCat}, api.Node{Kind: api.NodeRepeat, Min: 5, Max: 5}, api.Node{Kind: api.NodeRepeat, Min: 1, Max: 1}
	texts := textsOf("ab", 2)
	for _, l := range [][]api.Node{
		tower(blank, 3000, cat, 2), tower(blank, 3000, cat, 3), tower(blank, 3000, five, 1), tower(blank, 1, api.Node{Kind: api.NodeAlt}, 4001), tower(blank, 1, api.Node{Kind: api.NodeRepeat, Max: 100}, 1), tower(blank, 1, api.Node{Kind: api.NodeRepeat, Min: 100, Max: -1}, 1),
		tower(tower(blank, 3000, cat, 2), 11, api.Node{Kind: api.NodeAlt}, 2),
		tower(a, api.MaxStates-1, once, 1), tower(a, 2, once, 1),
	} {
		compare(t, l, texts)
	}
	doubled := tower(a, 11, cat, 2)
	if got := testkit.Ends(builtOf(t, doubled), strings.Repeat("a", 2100), 7); !slices.Equal(got, []int{2055}) {
		t.Errorf("P5.1: Build of 2048 bytes accepts from 7 to %v", got)
	}
	if _, e := Build(tower(a, 12, cat, 2)); e != api.ErrLimit {
		t.Errorf("P5.1: the error for the weight 4096 is %d", e)
	}
	// 4000 times a great number of blank kids
	wide := append(blank, api.Node{Kind: api.NodeCat, Kids: append(slices.Repeat([]int{1}, 1<<20), 0)})
	wide = append(wide, api.Node{Kind: api.NodeRepeat, Min: 100, Max: 100, Kids: []int{2}}, api.Node{Kind: api.NodeRepeat, Min: 40, Max: 40, Kids: []int{3}})
	if got := testkit.Ends(builtOf(t, wide), strings.Repeat("a", 4001), 0); !slices.Equal(got, []int{4000}) {
		t.Errorf("P5.1: Build of wide nodes accepts %v", got)
	}
}

// TestBuildOfWrongNodes checks that the errors of Check come first, before that of the weight.
func TestBuildOfWrongNodes(t *testing.T) {
	heavy := tower([]api.Node{{}}, 20, api.Node{Kind: api.NodeCat}, 2)
	for _, c := range []struct {
		l    []api.Node
		want api.Errno
	}{
		{nil, api.ErrArg}, {[]api.Node{{Kind: 7}}, api.ErrArg}, {[]api.Node{{Kind: api.NodeCat}}, api.ErrArg}, {make([]api.Node, api.MaxStates), api.OK}, {make([]api.Node, api.MaxStates+1), api.ErrArg},
		{heavy, api.ErrLimit}, {append(slices.Clone(heavy), api.Node{}), api.OK}, {append(slices.Clone(heavy), api.Node{Kind: -1}), api.ErrArg}, {append([]api.Node{{Kind: api.NodeRepeat}}, heavy[1:]...), api.ErrArg}, {append(slices.Clone(heavy), make([]api.Node, api.MaxStates)...), api.ErrArg},
	} {
		if a, e := Build(c.l); e != c.want || e != api.OK && (len(a.States) > 0 || a.Start != 0) {
			t.Errorf("P5.1: Build(%.200v) has %d states, error %d, want %d", c.l, len(a.States), e, c.want)
		}
	}
}
