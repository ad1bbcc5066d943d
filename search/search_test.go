package search

import (
	"math/rand"
	"regexp"
	"slices"
	"strings"
	"testing"

	"mergelens/api"
	"mergelens/automaton"
	"mergelens/regex"
	"mergelens/testkit"
)

// built returns the automaton of a pattern.
func built(t *testing.T, pattern string) api.Automaton {
	t.Helper()
	l, e := regex.Parse(pattern)
	a, f := automaton.Build(l)
	if e != api.OK || f != api.OK {
		t.Fatalf("Parse(%q) has the error %d, Build %d", pattern, e, f)
	}
	return a
}

// spans returns the spans of the given pairs of offsets.
var spans = testkit.Spans

// texts lists texts for which Whole or Any is true for a pattern, and texts for which it is false.
type texts struct {
	pattern    string
	yes, wrong []string
}

// checkTexts checks the results of Whole or Any.
func checkTexts(t *testing.T, name string, f func(a api.Automaton, s string) (bool, api.Errno), c texts) {
	t.Helper()
	a := built(t, c.pattern)
	for _, s := range append(slices.Clone(c.yes), c.wrong...) {
		want := slices.Contains(c.yes, s)
		if got, e := f(a, s); got != want || e != api.OK {
			t.Errorf("P6.1: %s of %q in %q = %v, %d, want %v", name, c.pattern, s, got, e, want)
		}
	}
}

// TestWhole checks results that are written out.
func TestWhole(t *testing.T) {
	for _, c := range []texts{
		{"", []string{""}, []string{"a", "\n"}}, {"a", []string{"a"}, []string{"", "aa", "ba", "ab", "b"}}, {"a*", []string{"", "a", "aaa"}, []string{"ab", "ba", "aaba"}},
		{"a|ab", []string{"a", "ab"}, []string{"", "b", "abb", "aab"}}, {"ab|a", []string{"a", "ab"}, []string{"aba"}}, {"a+b", []string{"ab", "aaab"}, []string{"b", "abb", "bab", "aba"}}, {"(aa|aaa)*", []string{"", "aa", "aaa", "aaaa", "aaaaa"}, []string{"a"}},
		{"^", []string{""}, []string{"a"}}, {"$", []string{""}, []string{"a"}}, {"^a$", []string{"a"}, []string{"", "aa"}}, {"a^b", nil, []string{"", "a", "b", "ab"}}, {"a$b", nil, []string{"a", "ab"}}, {"(^a|b)*", []string{"", "a", "b", "abb"}, []string{"aa", "ba"}}, {"(a$|b)*", []string{"a", "bba"}, []string{"aa", "ab"}},
		{".\xff", []string{"a\xff", "\x00\xff"}, []string{"\xff", "\n", "\xff\xff\xff"}},
	} {
		checkTexts(t, "Whole", Whole, c)
	}
}

// TestAny checks results that are written out.
func TestAny(t *testing.T) {
	for _, c := range []texts{
		{"", []string{"", "a"}, nil}, {"a", []string{"a", "ba", "ab", "bab"}, []string{"", "b", "bb"}}, {"a*", []string{"", "b", "ab"}, nil}, {"aa", []string{"aa", "baa", "aab"}, []string{"a", "aba"}}, {"a+b", []string{"ab", "babb"}, []string{"ba", "bbaa"}},
		{"^a", []string{"a", "ab"}, []string{"", "ba"}}, {"a$", []string{"a", "ba"}, []string{"", "ab"}}, {"^$", []string{""}, []string{"a"}}, {"a^", nil, []string{"", "a", "aa"}}, {"$a", nil, []string{"", "a", "aa"}}, {"^a|b$", []string{"ab", "ac", "cb", "b"}, []string{"ba", "bc", "ca"}}, {"\n", []string{"\n", "a\nb"}, []string{"ab"}},
	} {
		checkTexts(t, "Any", Any, c)
	}
}

// TestFind checks results that are written out.
func TestFind(t *testing.T) {
	for _, c := range []struct {
		pattern, s string
		want       []api.Span // from each offset; {-1, -1} for none
	}{
		{"", "ab", spans([2]int{0, 0}, [2]int{1, 1}, [2]int{2, 2})}, {"", "", spans([2]int{0, 0})}, {"a", "", spans([2]int{-1, -1})},
		{"a", "bab", spans([2]int{1, 2}, [2]int{1, 2}, [2]int{-1, -1}, [2]int{-1, -1})}, {"a*", "baa", spans([2]int{0, 0}, [2]int{1, 3}, [2]int{2, 3}, [2]int{3, 3})}, {"a+", "baab", spans([2]int{1, 3}, [2]int{1, 3}, [2]int{2, 3}, [2]int{-1, -1}, [2]int{-1, -1})},
		{"b|abc|ab", "abcb", spans([2]int{0, 3}, [2]int{1, 2}, [2]int{3, 4}, [2]int{3, 4}, [2]int{-1, -1})}, {"abcd|b", "abcx", spans([2]int{1, 2}, [2]int{1, 2}, [2]int{-1, -1}, [2]int{-1, -1}, [2]int{-1, -1})}, {"a|a.*b", "aaba", spans([2]int{0, 3}, [2]int{1, 3}, [2]int{3, 4}, [2]int{3, 4}, [2]int{-1, -1})},
		{"^a", "aa", spans([2]int{0, 1}, [2]int{-1, -1}, [2]int{-1, -1})}, {"^", "a", spans([2]int{0, 0}, [2]int{-1, -1})}, {"$", "ab", spans([2]int{2, 2}, [2]int{2, 2}, [2]int{2, 2})}, {"a$", "aa", spans([2]int{1, 2}, [2]int{1, 2}, [2]int{-1, -1})}, {"^$", "", spans([2]int{0, 0})}, {"^$", "a", spans([2]int{-1, -1}, [2]int{-1, -1})}, {"^a*$|b", "ab", spans([2]int{1, 2}, [2]int{1, 2}, [2]int{-1, -1})},
		{"[^a]", "\x00a\xff", spans([2]int{0, 1}, [2]int{2, 3}, [2]int{2, 3}, [2]int{-1, -1})},
	} {
		a := built(t, c.pattern)
		for from, want := range c.want {
			found := want.From >= 0
			if !found {
				want = api.Span{}
			}
			if got, ok, e := Find(a, c.s, from); got != want || ok != found || e != api.OK {
				t.Errorf("P6.2: Find of %q in %q from %d = %v, %v, %d, want %v, %v", c.pattern, c.s, from, got, ok, e, want, found)
			}
		}
	}
}

// TestAll checks results that are written out.
func TestAll(t *testing.T) {
	for _, c := range []struct {
		pattern, s string
		want       []api.Span
	}{
		{"a*", "baa", spans([2]int{0, 0}, [2]int{1, 3}, [2]int{3, 3})}, {"a*", "aab", spans([2]int{0, 2}, [2]int{2, 2}, [2]int{3, 3})}, {"", "", spans([2]int{0, 0})}, {"", "ab", spans([2]int{0, 0}, [2]int{1, 1}, [2]int{2, 2})}, {"a", "", nil}, {"a", "bb", nil}, {"a", "aba", spans([2]int{0, 1}, [2]int{2, 3})},
		{"aa", "aaaaa", spans([2]int{0, 2}, [2]int{2, 4})}, {"a|ab|bb", "abbb", spans([2]int{0, 2}, [2]int{2, 4})}, {"aba", "ababa", spans([2]int{0, 3})}, {"a|a*b", "aabaa", spans([2]int{0, 3}, [2]int{3, 4}, [2]int{4, 5})}, {"b?", "abb", spans([2]int{0, 0}, [2]int{1, 2}, [2]int{2, 3}, [2]int{3, 3})},
		{"^a", "aa", spans([2]int{0, 1})}, {"^a*", "aab", spans([2]int{0, 2})}, {"^", "ab", spans([2]int{0, 0})}, {"$", "ab", spans([2]int{2, 2})}, {"a*$", "aba", spans([2]int{2, 3}, [2]int{3, 3})}, {"^|$", "ab", spans([2]int{0, 0}, [2]int{2, 2})}, {"^$", "", spans([2]int{0, 0})},
	} {
		if got, e := All(built(t, c.pattern), c.s); e != api.OK || !slices.Equal(got, c.want) {
			t.Errorf("P6.3: All of %q in %q = %v, %d, want %v", c.pattern, c.s, got, e, c.want)
		}
	}
}

// firstOf returns the match that the chapter defines for Find, of all matches of a text: for each offset, the ends of those that begin there.
func firstOf(matches [][]int, from int) (api.Span, bool) {
	for i := from; i < len(matches); i++ {
		if len(matches[i]) > 0 {
			return api.Span{From: i, To: slices.Max(matches[i])}, true
		}
	}
	return api.Span{}, false
}

// allOf returns the matches that the chapter defines for All.
func allOf(matches [][]int) []api.Span {
	var list []api.Span
	for p := 0; p < len(matches); {
		match, ok := firstOf(matches, p)
		if !ok {
			break
		}
		list = append(list, match)
		p = match.To
		if match.From == match.To {
			p++
		}
	}
	return list
}

// compare compares all functions with their definitions for a text, and checks the consequences.
func compare(t *testing.T, a api.Automaton, s string) {
	t.Helper()
	matches := make([][]int, len(s)+1)
	for i := range matches {
		matches[i] = testkit.Ends(a, s, i)
	}
	want := slices.Contains(matches[0], len(s))
	if got, e := Whole(a, s); got != want || e != api.OK {
		t.Fatalf("P6.1: Whole(%v, %q) = %v, %d, want %v", a, s, got, e, want)
	}
	_, want = firstOf(matches, 0)
	if got, e := Any(a, s); got != want || e != api.OK {
		t.Fatalf("P6.1: Any(%v, %q) = %v, %d, want %v", a, s, got, e, want)
	}
	for from := range matches {
		want, found := firstOf(matches, from)
		if got, ok, e := Find(a, s, from); got != want || ok != found || e != api.OK {
			t.Fatalf("P6.2: Find(%v, %q, %d) = %v, %v, %d, want %v, %v", a, s, from, got, ok, e, want, found)
		}
	}
	got, e := All(a, s)
	if want := allOf(matches); e != api.OK || !slices.Equal(got, want) {
		t.Fatalf("P6.3: All(%v, %q) = %v, %d, want %v", a, s, got, e, want)
	}
	for i := 1; i < len(got); i++ {
		if got[i-1].To > got[i].From || got[i-1].From >= got[i].From {
			t.Fatalf("P6.4: the matches %v of %v in %q are not ascending, or overlap", got, a, s)
		}
	}
}

// TestAllPatterns compares the functions with their definitions, and Find with another implementation, for all short patterns and texts.
func TestAllPatterns(t *testing.T) {
	var texts []string
	testkit.Texts("ab", 4, func(s string) { texts = append(texts, s) })
	texts = append(texts, "abaab", "bbabaaab", "aaaaaaa")
	for _, alphabet := range []string{"ab|*()", "a|(^$)+", "ab?+.|"} {
		testkit.Texts(alphabet, 4, func(pattern string) {
			if _, e := regex.Parse(pattern); e != api.OK {
				return
			}
			like := regexp.MustCompile(pattern)
			like.Longest()
			a := built(t, pattern)
			for _, s := range texts {
				compare(t, a, s)
				got, ok, e := Find(a, s, 0)
				if want := like.FindStringIndex(s); e != api.OK || ok != (want != nil) || ok && (got.From != want[0] || got.To != want[1]) {
					t.Fatalf("P6.2: Find of %q in %q from 0 = %v, %v, %d, want %v", pattern, s, got, ok, e, want)
				}
			}
		})
	}
}

// TestAllAutomata compares the functions with their definitions for all automata of at most three states, of which some accept nothing or lead nowhere.
func TestAllAutomata(t *testing.T) {
	var texts []string
	testkit.Texts("ab", 2, func(s string) { texts = append(texts, s) })
	texts = append(texts, "aab", "aba")
	for n := 1; n <= 3; n++ {
		states := []api.State{{Kind: api.StateAccept, Next: -7, Other: 9}}
		for next := range n {
			states = append(states, api.State{Set: [4]uint64{1: 1 << ('a' - 64)}, Next: next, Other: -1}, api.State{Kind: api.StateStart, Next: next, Other: 9}, api.State{Kind: api.StateEnd, Next: next, Other: -1})
			for other := range n {
				states = append(states, api.State{Kind: api.StateSplit, Next: next, Other: other})
			}
		}
		var extend func(list []api.State)
		extend = func(list []api.State) {
			if len(list) < n {
				for _, s := range states {
					extend(append(slices.Clone(list), s))
				}
				return
			}
			for start := range n {
				for _, s := range texts {
					compare(t, api.Automaton{States: list, Start: start}, s)
				}
			}
		}
		extend(nil)
	}
}

// mixed returns an automaton of n states and several accepts, whose bytes are those of abc.
func mixed(r *rand.Rand, n int) api.Automaton {
	a := api.Automaton{Start: r.Intn(n)}
	for range n {
		kind := r.Intn(8)
		if kind > api.StateAccept {
			kind = api.StateSet
		}
		a.States = append(a.States, api.State{Kind: kind, Set: [4]uint64{1: uint64(r.Intn(8)) << ('a' - 64)}, Next: r.Intn(n), Other: r.Intn(n)})
	}
	return a
}

// TestMixedAutomata compares the functions with their definitions for larger automata and longer texts.
func TestMixedAutomata(t *testing.T) {
	r := rand.New(rand.NewSource(6))
	for range 20000 {
		a := mixed(r, 3+r.Intn(14))
		s := make([]byte, r.Intn(14))
		for i := range s {
			s[i] = "abc"[r.Intn(3)]
		}
		compare(t, a, string(s))
	}
}

// TestAllBytes checks that a set has exactly its bytes.
func TestAllBytes(t *testing.T) {
	bytes := make([]byte, 256)
	for b := range bytes {
		bytes[b] = byte(b)
	}
	for b := range 256 {
		a := api.Automaton{States: []api.State{{Kind: api.StateAccept}, {Next: 0}}, Start: 1}
		a.States[1].Set[b/64] = 1 << (b % 64)
		if got, e := All(a, string(bytes)); e != api.OK || !slices.Equal(got, spans([2]int{b, b + 1})) {
			t.Errorf("P6.3: the byte %d is found at %v, %d", b, got, e)
		}
	}
}

// TestLongTexts checks matches in long texts, where many of them overlap.
func TestLongTexts(t *testing.T) {
	const n = 1 << 19
	long := strings.Repeat("a", n)
	single := make([]api.Span, n)
	for i := range single {
		single[i] = api.Span{From: i, To: i + 1}
	}
	for _, c := range []struct {
		pattern, s string
		whole      bool
		want       []api.Span
	}{
		{"a*", long, true, spans([2]int{0, n}, [2]int{n, n})}, {"a|a*b", long, false, single}, {"a*b", long, false, nil}, {"a*b", long + "b", true, spans([2]int{0, n + 1})}, {"a*b", "b" + long, false, spans([2]int{0, 1})}, {"(a|aa)*$", long, true, spans([2]int{0, n}, [2]int{n, n})}, {"^(a{2})*$", long + "a", false, nil}, {"^(a{2})*", long + "a", false, spans([2]int{0, n})}, {"a?(^b|c$)", "b" + long + "c", false, spans([2]int{0, 1}, [2]int{n, n + 2})}, {"(a?){99}b", long + "b" + long, false, spans([2]int{n - 99, n + 1})},
	} {
		a := built(t, c.pattern)
		whole, e := Whole(a, c.s)
		some, f := Any(a, c.s)
		first, ok, g := Find(a, c.s, 0)
		all, h := All(a, c.s)
		if whole != c.whole || some != (len(c.want) > 0) || ok != some || e != api.OK || f != api.OK || g != api.OK || h != api.OK {
			t.Errorf("P6.1: of %q: Whole = %v, %d, Any = %v, %d, Find = %v, %d, All has the error %d", c.pattern, whole, e, some, f, ok, g, h)
		}
		if !slices.Equal(all, c.want) {
			t.Errorf("P6.3: All of %q = %.200v, want %.200v", c.pattern, all, c.want)
		}
		if ok && (len(c.want) == 0 || first != c.want[0]) {
			t.Errorf("P6.2: Find of %q = %v", c.pattern, first)
		}
	}
}

// TestGreatestAutomata checks automata of as many states as there may be.
func TestGreatestAutomata(t *testing.T) {
	const n = 2 * api.MaxStates
	a := api.Automaton{States: make([]api.State, n)}
	for i := range a.States {
		a.States[i] = api.State{Kind: api.StateSplit, Next: i + 1, Other: i / 2}
	}
	a.States[n-1] = api.State{Kind: api.StateAccept}
	compare(t, a, "ab")
	for i := range n - 1 {
		a.States[i] = api.State{Set: [4]uint64{1: 1 << ('a' - 64)}, Next: i + 1}
	}
	s := "b" + strings.Repeat("a", n) + "b"
	if got, e := All(a, s); e != api.OK || !slices.Equal(got, spans([2]int{1, n})) {
		t.Errorf("P6.3: All of %d states = %v, %d", n, got, e)
	}
	if got, ok, e := Find(a, s, 2); e != api.OK || !ok || got != (api.Span{From: 2, To: n + 1}) {
		t.Errorf("P6.2: Find of %d states from 2 = %v, %v, %d", n, got, ok, e)
	}
	if got, ok, e := Find(a, s, 3); e != api.OK || ok || got != (api.Span{}) {
		t.Errorf("P6.2: Find of %d states from 3 = %v, %v, %d", n, got, ok, e)
	}
	if got, e := Whole(a, s[1:n]); e != api.OK || !got {
		t.Errorf("P6.1: Whole of %d states = %v, %d", n, got, e)
	}
}
