package regex

import (
	"math"
	"math/big"
	"slices"
	"strings"
	"testing"

	"mergelens/api"
	"mergelens/testkit"
)

func TestCheck(t *testing.T) {
	set := api.Node{Kind: api.NodeSet}
	full := [4]uint64{math.MaxUint64, 1, 2, 3}
	for _, c := range []struct {
		l    []api.Node
		want api.Errno
	}{
		{nil, api.ErrArg}, {[]api.Node{}, api.ErrArg},
		{[]api.Node{{}}, api.OK}, {[]api.Node{set, {Kind: api.NodeStart}, {Kind: api.NodeEnd}, cat(0, 1, 2)}, api.OK}, {[]api.Node{{Kind: api.NodeSet, Set: full}}, api.OK},
		{[]api.Node{set, set}, api.OK}, // not every node needs to be a kid
		{[]api.Node{{Kind: -1}}, api.ErrArg}, {[]api.Node{{Kind: 7}}, api.ErrArg}, {[]api.Node{{Kind: math.MaxInt}}, api.ErrArg}, {[]api.Node{{Kind: math.MinInt}}, api.ErrArg}, {[]api.Node{set, {Kind: 7}, set}, api.ErrArg}, {[]api.Node{set, {Kind: 7, Kids: []int{0}}}, api.ErrArg}, {[]api.Node{set, {Kind: 7, Kids: []int{0, 0}}}, api.ErrArg},
		{[]api.Node{set, cat(0, 0)}, api.OK}, {[]api.Node{set, alt(0, 0)}, api.OK}, {[]api.Node{set, set, alt(1, 0, 1)}, api.OK},
		{[]api.Node{set, cat()}, api.ErrArg}, {[]api.Node{set, alt()}, api.ErrArg}, {[]api.Node{set, cat(0)}, api.ErrArg}, {[]api.Node{set, alt(0)}, api.ErrArg}, {[]api.Node{cat()}, api.ErrArg},
		{[]api.Node{set, cat(0, 1)}, api.ErrArg}, {[]api.Node{set, cat(0, 2), set}, api.ErrArg}, {[]api.Node{set, alt(0, -1)}, api.ErrArg}, {[]api.Node{set, cat(0, math.MaxInt)}, api.ErrArg}, {[]api.Node{set, cat(math.MinInt, 0)}, api.ErrArg}, {[]api.Node{set, cat(1, 0)}, api.ErrArg}, {[]api.Node{cat(0, 0)}, api.ErrArg},
		{[]api.Node{set, {Kind: api.NodeEmpty, Kids: []int{0}}}, api.ErrArg}, {[]api.Node{set, {Kind: api.NodeSet, Kids: []int{0}}}, api.ErrArg}, {[]api.Node{set, {Kind: api.NodeStart, Kids: []int{0}}}, api.ErrArg}, {[]api.Node{set, {Kind: api.NodeEnd, Kids: []int{0}}}, api.ErrArg}, {[]api.Node{set, {Kind: api.NodeEnd, Kids: []int{0, 0}}}, api.ErrArg},
		{[]api.Node{set, {Kind: api.NodeEmpty, Kids: []int{}}}, api.OK},
		{[]api.Node{set, {Kind: api.NodeRepeat}}, api.ErrArg}, {[]api.Node{set, {Kind: api.NodeRepeat, Kids: []int{0, 0}}}, api.ErrArg}, {[]api.Node{set, repeat(0, 0, 1)}, api.ErrArg}, {[]api.Node{set, repeat(0, 0, -1)}, api.ErrArg},
		{[]api.Node{set, repeat(0, -1, 0)}, api.OK}, {[]api.Node{set, repeat(0, 0, 0)}, api.OK}, {[]api.Node{set, repeat(100, 100, 0)}, api.OK}, {[]api.Node{set, repeat(100, -1, 0)}, api.OK}, {[]api.Node{set, repeat(0, 100, 0)}, api.OK},
		{[]api.Node{set, repeat(-1, -1, 0)}, api.ErrArg}, {[]api.Node{set, repeat(-1, 5, 0)}, api.ErrArg}, {[]api.Node{set, repeat(-2, -1, 0)}, api.ErrArg}, {[]api.Node{set, repeat(101, -1, 0)}, api.ErrArg}, {[]api.Node{set, repeat(101, 101, 0)}, api.ErrArg}, {[]api.Node{set, repeat(0, 101, 0)}, api.ErrArg},
		{[]api.Node{set, repeat(0, -2, 0)}, api.ErrArg}, {[]api.Node{set, repeat(1, 0, 0)}, api.ErrArg}, {[]api.Node{set, repeat(100, 99, 0)}, api.ErrArg},
		{[]api.Node{set, repeat(math.MinInt, -1, 0)}, api.ErrArg}, {[]api.Node{set, repeat(math.MaxInt, -1, 0)}, api.ErrArg}, {[]api.Node{set, repeat(0, math.MaxInt, 0)}, api.ErrArg}, {[]api.Node{set, repeat(0, math.MinInt, 0)}, api.ErrArg},
		{make([]api.Node, api.MaxStates), api.OK}, {make([]api.Node, api.MaxStates+1), api.ErrArg},
		{[]api.Node{{Kind: api.NodeEmpty, Set: full, Min: -5, Max: 500}}, api.OK}, // the chapter asks nothing of fields that a kind does not use
	} {
		if got := Check(c.l); got != c.want {
			t.Errorf("P4.2: Check(%.200v) = %d, want %d", c.l, got, c.want)
		}
		if n, e := Weight(c.l); e != c.want || e != api.OK && n != 0 {
			t.Errorf("P4.3: Weight(%.200v) = %d, %d, want error %d", c.l, n, e, c.want)
		}
	}
}

func TestLiteral(t *testing.T) {
	for _, c := range []struct{ s, want string }{
		{"", ""}, {"abc", "abc"}, {"a.b", "a\\.b"}, {"()[{*+?|.^$\\", "\\(\\)\\[\\{\\*\\+\\?\\|\\.\\^\\$\\\\"}, {"]}-,:/\"'", "]}-,:/\"'"}, {"\\n", "\\\\n"}, {"\n\x00\xff", "\n\x00\xff"}, {"((", "\\(\\("}, {"é", "é"},
	} {
		if got := Literal(c.s); got != c.want {
			t.Errorf("P4.2: Literal(%q) = %q, want %q", c.s, got, c.want)
		}
	}
}

// TestLiteralOfAllTexts checks Literal byte by byte, and that its pattern is for the bytes of the string alone.
func TestLiteralOfAllTexts(t *testing.T) {
	for b := range 256 {
		s := string([]byte{byte(b)})
		want := s
		if strings.Contains("()[{*+?|.^$\\", s) {
			want = "\\" + s
		}
		if got := Literal(s); got != want {
			t.Errorf("P4.2: Literal(%q) = %q, want %q", s, got, want)
		}
		if got, e := Parse(Literal(s)); e != api.OK || len(got) != 1 || !same(got[0], set(s)) {
			t.Errorf("P4.4: Parse(Literal(%q)) = %v, %d", s, got, e)
		}
	}
	testkit.Texts("a([*{^\\]", 5, func(s string) {
		got, e := Parse(Literal(s))
		if e != api.OK {
			t.Fatalf("P4.4: Parse(Literal(%q)) has the error %d", s, e)
		}
		for i := range len(s) {
			if len(got) < len(s) || !same(got[i], set(s[i:i+1])) {
				t.Fatalf("P4.4: Parse(Literal(%q)) = %v", s, got)
			}
		}
	})
	for _, s := range []string{strings.Repeat("(", api.MaxPattern/2), strings.Repeat("a", api.MaxPattern)} {
		if got, e := Parse(Literal(s)); e != api.OK || len(got) != len(s)+1 {
			t.Errorf("P4.4: Parse(Literal(%q)) has %d nodes, error %d", s, len(got), e)
		}
	}
	long := strings.Repeat("a(", api.MaxText/2)
	if got := Literal(long); len(got) != len(long)/2*3 || got[:6] != "a\\(a\\(" {
		t.Errorf("P4.2: Literal of %d bytes has %d bytes", len(long), len(got))
	}
	if _, e := Parse(Literal(strings.Repeat("(", api.MaxPattern/2+1))); e != api.ErrLimit {
		t.Errorf("P4.1: the error of a literal that is too long is %d", e)
	}
}

func TestWeight(t *testing.T) {
	for _, c := range []struct {
		pattern string
		want    int
	}{
		{"", 1}, {"a", 1}, {"^", 1}, {"$", 1}, {"abc", 3}, {"a|b", 3}, {"a|b|c", 5}, {"|", 3}, {"ab|c", 4}, {"(a|b)c", 4},
		{"a*", 2}, {"a+", 3}, {"a?", 2}, {"a{3}", 3}, {"a{2,5}", 8}, {"a{2,}", 4}, {"a{0}", 0}, {"a{0,3}", 6}, {"(ab){2,5}", 13}, {"(ab)*", 3}, {"(ab)+", 5}, {"(ab){3,}", 9},
		{"(a{0})*", 1}, {"(a{0}){5}", 0}, {"(a{0}){2,5}", 3}, {"a{0}b{0}", 0}, {"a{0}|b{0}", 1},
		{"(a{100}){39}a{99}", 3999}, {"(a{100}){40}", 4000}, {"(a{100}){40}a", 4001}, {"(a{100}){40}a{0}", 4000}, {"(a{100}){41}", 4001}, {"((a{100}){100}){100}", 4001}, {"(((((((((((a{100}){100}){100}){100}){100}){100}){100}){100}){100}){100}){100}){100}", 4001},
		{"((a{100}){100}){0}", 0}, {"((a{100}){100}){0}b", 1}, {"(((a{100}){100}){100}|b){0,1}", 4001},
	} {
		l, e := Parse(c.pattern)
		if got, f := Weight(l); e != api.OK || f != api.OK || got != c.want {
			t.Errorf("P4.3: the weight of %q is %d, %d, want %d", c.pattern, got, f, c.want)
		}
	}
}

// exactWeight returns the weight of the node i as the chapter defines it.
func exactWeight(l []api.Node, i int) *big.Int {
	sum := new(big.Int)
	n := l[i]
	for _, k := range n.Kids {
		sum.Add(sum, exactWeight(l, k))
	}
	one := big.NewInt(1)
	switch n.Kind {
	case api.NodeCat:
	case api.NodeAlt:
		sum.Add(sum, big.NewInt(int64(len(n.Kids)-1)))
	case api.NodeRepeat:
		more := new(big.Int).Add(sum, one)
		if n.Max != -1 {
			more.Mul(more, big.NewInt(int64(n.Max-n.Min)))
		}
		sum.Mul(sum, big.NewInt(int64(n.Min)))
		sum.Add(sum, more)
	default:
		return one
	}
	return sum
}

// choices lists nodes that are valid at the index i.
func choices(i int) []api.Node {
	list := []api.Node{{}, {Kind: api.NodeSet}, {Kind: api.NodeStart}, {Kind: api.NodeEnd}}
	for k := range i {
		list = append(list, cat(k, 0), cat(k, k, i-1), alt(k, i-1), alt(0, k, k, k))
		for _, b := range [][2]int{{0, -1}, {1, -1}, {0, 0}, {0, 1}, {1, 1}, {2, 7}, {100, 100}, {100, -1}, {0, 100}} {
			list = append(list, repeat(b[0], b[1], k))
		}
	}
	return list
}

// TestWeightOfAllLists compares Weight with the definition for all lists of few nodes.
func TestWeightOfAllLists(t *testing.T) {
	var extend func(l []api.Node)
	extend = func(l []api.Node) {
		for _, n := range choices(len(l)) {
			longer := append(slices.Clone(l), n)
			want := exactWeight(longer, len(longer)-1)
			if limit := big.NewInt(api.MaxStates + 1); want.Cmp(limit) > 0 {
				want = limit
			}
			if got, e := Weight(longer); e != api.OK || int64(got) != want.Int64() {
				t.Fatalf("P4.3: Weight(%v) = %d, %d, want %v", longer, got, e, want)
			}
			if len(longer) < 4 {
				extend(longer)
			}
		}
	}
	extend(nil)
}

// TestWeightOfGreatLists checks weights beyond all integers, and many kids.
func TestWeightOfGreatLists(t *testing.T) {
	tower := []api.Node{{}}
	for len(tower) < api.MaxStates {
		last := len(tower) - 1
		tower = append(tower, cat(last, last, last))
	}
	if got, e := Weight(tower); e != api.OK || got != api.MaxStates+1 {
		t.Errorf("P4.3: the weight of a tower is %d, %d", got, e)
	}
	tower[len(tower)-1] = repeat(0, 0, len(tower)-2)
	if got, e := Weight(tower); e != api.OK || got != 0 {
		t.Errorf("P4.3: the weight of no repetition of a tower is %d, %d", got, e)
	}
	wide := []api.Node{{}, repeat(0, 0, 0), cat(make([]int, api.MaxStates)...), cat(slices.Repeat([]int{1}, 1<<20)...)}
	for i, want := range []int{1, 0, api.MaxStates, 0} {
		if got, e := Weight(wide[:i+1]); e != api.OK || got != want {
			t.Errorf("P4.3: Weight of %d nodes = %d, %d, want %d", i+1, got, e, want)
		}
	}
}
