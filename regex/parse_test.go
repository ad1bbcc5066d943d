package regex

import (
	"regexp"
	"slices"
	"strings"
	"testing"

	"mergelens/api"
	"mergelens/testkit"
)

// same reports whether two nodes are equal.
func same(a, b api.Node) bool {
	return a.Kind == b.Kind && a.Set == b.Set && a.Min == b.Min && a.Max == b.Max && slices.Equal(a.Kids, b.Kids)
}

// set returns the node of the set of some bytes.
func set(s string) api.Node {
	return setOf(func(b byte) bool { return strings.IndexByte(s, b) >= 0 })
}

// repeat returns the node of a repetition.
func repeat(least, most, kid int) api.Node {
	return api.Node{Kind: api.NodeRepeat, Min: least, Max: most, Kids: []int{kid}}
}

// cat returns the node of kids one after another.
func cat(kids ...int) api.Node { return api.Node{Kind: api.NodeCat, Kids: kids} }

// alt returns the node of kids of which one is chosen.
func alt(kids ...int) api.Node { return api.Node{Kind: api.NodeAlt, Kids: kids} }

func TestParse(t *testing.T) {
	empty, start, end := api.Node{Kind: api.NodeEmpty}, api.Node{Kind: api.NodeStart}, api.Node{Kind: api.NodeEnd}
	for _, c := range []struct {
		pattern string
		want    []api.Node
	}{
		{"", []api.Node{empty}},
		{"a", []api.Node{set("a")}},
		{"a|b*", []api.Node{set("a"), set("b"), repeat(0, -1, 1), alt(0, 2)}},
		{"ab|cd", []api.Node{set("a"), set("b"), cat(0, 1), set("c"), set("d"), cat(3, 4), alt(2, 5)}},
		{"|", []api.Node{empty, empty, alt(0, 1)}},
		{"a||b", []api.Node{set("a"), empty, set("b"), alt(0, 1, 2)}},
		{"()", []api.Node{empty}},
		{"((a))", []api.Node{set("a")}},
		{"()*", []api.Node{empty, repeat(0, -1, 0)}},
		{"(|a)b", []api.Node{empty, set("a"), alt(0, 1), set("b"), cat(2, 3)}},
		{"a(bc)d", []api.Node{set("a"), set("b"), set("c"), cat(1, 2), set("d"), cat(0, 3, 4)}},
		{"(a|b)|c", []api.Node{set("a"), set("b"), alt(0, 1), set("c"), alt(2, 3)}},
		{"(a*)+", []api.Node{set("a"), repeat(0, -1, 0), repeat(1, -1, 1)}},
		{"^", []api.Node{start}},
		{"a^$b", []api.Node{set("a"), start, end, set("b"), cat(0, 1, 2, 3)}},
		{"(^)*", []api.Node{start, repeat(0, -1, 0)}},
		{"($){2}", []api.Node{end, repeat(2, 2, 0)}},
		{"\\^*", []api.Node{set("^"), repeat(0, -1, 0)}},
		{"\\$?", []api.Node{set("$"), repeat(0, 1, 0)}},
		{"\\n", []api.Node{set("n")}},
		{"\\\n\\\x00", []api.Node{set("\n"), set("\x00"), cat(0, 1)}},
		{"\\\\", []api.Node{set("\\")}},
		{"\xff\xc3", []api.Node{set("\xff"), set("\xc3"), cat(0, 1)}},
		{"é+", []api.Node{set("\xc3"), set("\xa9"), repeat(1, -1, 1), cat(0, 2)}},
		{"]}-,:", []api.Node{set("]"), set("}"), set("-"), set(","), set(":"), cat(0, 1, 2, 3, 4)}},
		{".", []api.Node{setOf(func(b byte) bool { return true })}},
		{"a{0}", []api.Node{set("a"), repeat(0, 0, 0)}},
		{"a{0,0}", []api.Node{set("a"), repeat(0, 0, 0)}},
		{"a{100}", []api.Node{set("a"), repeat(100, 100, 0)}},
		{"a{100,}", []api.Node{set("a"), repeat(100, -1, 0)}},
		{"a{0,}", []api.Node{set("a"), repeat(0, -1, 0)}},
		{"a{99,100}", []api.Node{set("a"), repeat(99, 100, 0)}},
		{"a{3}}", []api.Node{set("a"), repeat(3, 3, 0), set("}"), cat(1, 2)}},
		{"[a]{2,3}b", []api.Node{set("a"), repeat(2, 3, 0), set("b"), cat(1, 2)}},
	} {
		if got, e := Parse(c.pattern); e != api.OK || !slices.EqualFunc(got, c.want, same) {
			t.Errorf("P4.1: Parse(%q) = %v, %d, want %v", c.pattern, got, e, c.want)
		}
	}
}

// not returns the node of the bytes that are not in s.
func not(s string) api.Node {
	return setOf(func(b byte) bool { return strings.IndexByte(s, b) < 0 })
}

func TestClass(t *testing.T) {
	for _, c := range []struct {
		pattern string
		want    api.Node
	}{
		{"[a]", set("a")}, {"[cab]", set("abc")}, {"[a-c]", set("abc")}, {"[a-a]", set("a")}, {"[aa-b]", set("ab")}, {"[a-cb-d]", set("abcd")},
		{"[]]", set("]")}, {"[]a]", set("]a")}, {"[]-_]", set("]^_")}, {"[]-]", set("]-")}, {"[^]]", not("]")}, {"[^]-_]", not("]^_")}, {"[^]a]", not("]a")},
		{"[^a]", not("a")}, {"[^^]", not("^")}, {"[a^]", set("a^")}, {"[^a-c^]", not("abc^")}, {"[^-]", not("-")}, {"[\\^]", set("\\^")},
		{"[a-]", set("a-")}, {"[-a]", set("-a")}, {"[-]", set("-")}, {"[--]", set("-")}, {"[---]", set("-")}, {"[--/]", set("-./")}, {"[+--]", set("+,-")}, {"[a-c-e]", set("abc-e")}, {"[a-c--/]", set("abc-./")}, {"[a-c-]", set("abc-")},
		{"[\\]", set("\\")}, {"[\\n]", set("\\n")}, {"[(|)*+?{.$]", set("(|)*+?{.$")}, {"[\n\x00]", set("\n\x00")}, {"[\xfe-\xff]", set("\xfe\xff")}, {"[é]", set("\xc3\xa9")},
		{"[[]", set("[")}, {"[[a]", set("[a")}, {"[[-]]", api.Node{}}, {"[[-^]", set("[\\]^")}, {"[Z-[:]", set("Z[:")}, {"[a[]", set("a[")},
		{"[:a]", set(":a")}, {"[:alpha:]", set(":alph")}, {"[^:]", not(":")}, {"[^[:digit:]]", not("0123456789")}, {"[a:[:digit:]:]", set("a:0123456789")},
		{"[[:digit:]-z]", set("0123456789-z")}, {"[[:digit:]-]", set("0123456789-")}, {"[-[:digit:]]", set("-0123456789")}, {"[[:digit:][:upper:]_]", set("0123456789ABCDEFGHIJKLMNOPQRSTUVWXYZ_")},
		{"[][:digit:]]", set("]0123456789")},
		{"[\x00-\xff]", not("")}, {"[^\x00-\xff]", set("")},
	} {
		got, e := Parse(c.pattern)
		if c.pattern == "[[-]]" { // the set of [ and -, and a byte ]
			if e != api.OK || !slices.EqualFunc(got, []api.Node{set("[-"), set("]"), cat(0, 1)}, same) {
				t.Errorf("P4.1: Parse(%q) = %v, %d", c.pattern, got, e)
			}
			continue
		}
		if e != api.OK || len(got) != 1 || !same(got[0], c.want) {
			t.Errorf("P4.1: Parse(%q) = %v, %d, want %v", c.pattern, got, e, c.want)
		}
	}
}

// TestNames compares the named classes with those of another implementation.
func TestNames(t *testing.T) {
	for _, name := range []string{"alpha", "digit", "alnum", "upper", "lower", "space", "punct"} {
		for _, form := range []string{"[[:" + name + ":]]", "[^[:" + name + ":]]"} {
			like := regexp.MustCompile("^" + form + "$")
			got, e := Parse(form)
			if e != api.OK || len(got) != 1 {
				t.Fatalf("P4.1: Parse(%q) = %v, %d", form, got, e)
			}
			for b := range 256 {
				has := got[0].Set[b/64]>>(b%64)&1 == 1
				if want := like.MatchString(string(rune(b))); has != want {
					t.Errorf("P4.1: the set of %s has byte %d: %v, want %v", form, b, has, want)
				}
			}
		}
	}
}

func TestNoPattern(t *testing.T) {
	for _, s := range []string{
		"a**", "a+?", "a?+", "a*{1}", "a{1}*", "a{1}{2}", "*", "+", "?", "{", "{1}", "|*", "a|+", "(*a)", "(?a)", "({1})", "()|?",
		"^*", "^+", "^?", "^{1}", "$*", "$+", "$?", "${1}", "a^*", "(^*)",
		")", "a)", "())", "a|)", ")(", "(", "(a", "((a)", "(a|", "a(", "(()",
		"\\", "a\\", "(a\\", "(\\)", "\\\\\\",
		"a{", "a{}", "a{,}", "a{,1}", "a{1", "a{1,", "a{1,2", "a{x}", "a{1x}", "a{1,x}", "a{1,2x}", "a{ 1}", "a{1 }", "a{-1}", "a{+1}", "a{1,,2}", "a{1,2,3}",
		"a{01}", "a{00}", "a{1,02}", "a{2,1}", "a{1,0}", "a{100,99}", "a{101}", "a{101,}", "a{0,101}", "a{101,101}", "a{2147483647}", "a{2147483648}", "a{0,99999999999999999999}", "a{18446744073709551617}",
		"[", "[]", "[^", "[^]", "[a", "[^a", "[a-", "[a-b", "[-", "[]-", "[]-a", "[^]a", "a[", "[a\\]\\", "([)", "([)]",
		"[b-a]", "[a--]", "[\xff-\x00]", "[]-[]", "[z[:digit:]b-a]", "[a-[:digit:]]", "[^b-a]",
		"[[:x:]]", "[[::]]", "[[:]", "[[:]]", "[[:]:]]", "[[:-z]", "[[:digit", "[[:digit:", "[[:digit:]", "[[:digit]]", "[[:Digit:]]", "[[:digit :]]", "[[:alphadigit:]]", "[[:digits:]]", "[[:digi:]]", "[[:^digit:]]", "[[:blank:]]", "[[:cntrl:]]", "[[:graph:]]", "[[:print:]]", "[[:xdigit:]]", "[[:word:]]", "[[:ascii:]]", "[a[:x:]]", "[][:x:]]", "[^[:x:]]", "[[::alpha:]]",
	} {
		if got, e := Parse(s); e != api.ErrPattern || len(got) != 0 {
			t.Errorf("P4.1: Parse(%q) = %v, %d, want %d", s, got, e, api.ErrPattern)
		}
	}
}

// TestOrderOfErrors checks that the leftmost error counts, after that of the length.
func TestOrderOfErrors(t *testing.T) {
	open, closed := strings.Repeat("(", api.MaxDepth), strings.Repeat(")", api.MaxDepth)
	for _, c := range []struct {
		s    string
		want api.Errno
	}{
		{strings.Repeat("a", api.MaxPattern), api.OK}, {strings.Repeat("a", api.MaxPattern+1), api.ErrLimit}, {strings.Repeat("*", api.MaxPattern+1), api.ErrLimit}, {strings.Repeat("*", api.MaxPattern), api.ErrPattern},
		{strings.Repeat("a", api.MaxText), api.ErrLimit},
		{open + closed, api.OK}, {open + "a" + closed + "*", api.OK}, {"(" + open + closed + ")", api.ErrLimit}, {open + "(", api.ErrLimit}, {open + "()" + closed, api.ErrLimit}, {strings.Repeat("(", api.MaxPattern), api.ErrLimit},
		{open, api.ErrPattern}, {open + closed[1:], api.ErrPattern}, {open + closed + ")", api.ErrPattern},
		{open + ")(" + closed, api.OK}, {open + ")((" + closed, api.ErrLimit}, {open + closed + open + closed, api.OK}, {strings.Repeat("()", api.MaxPattern/2), api.OK}, {open + "|a" + closed, api.OK}, {open + "|(", api.ErrLimit},
		{open + "[(]\\(" + closed, api.OK}, {open + "[(]((", api.ErrLimit},
		{open + "*(", api.ErrPattern}, {"*" + open + "(", api.ErrPattern}, {open + "(*", api.ErrLimit}, {open + "a**(", api.ErrPattern}, {open + "^*(", api.ErrPattern}, {open + "([", api.ErrLimit}, {open + "(\\", api.ErrLimit},
		{")" + open + "(", api.ErrPattern}, {open + closed + ")(" + open, api.ErrPattern},
		{open + "[(", api.ErrPattern}, {open + "[b-a](", api.ErrPattern}, {open + "[[:x:]](", api.ErrPattern}, {open + "[](", api.ErrPattern},
		{open + "a{1(", api.ErrPattern}, {open + "a{2,1}(", api.ErrPattern}, {open + "a{101}(", api.ErrPattern}, {open + "{1}(", api.ErrPattern},
	} {
		if got, e := Parse(c.s); e != c.want || e != api.OK && len(got) != 0 {
			t.Errorf("P4.1: Parse(%.120q) = %v, %d, want %d", c.s, got, e, c.want)
		}
	}
}

// compare compares Parse with the definition, and checks a consequence.
func compare(t *testing.T, g grammar, s string) {
	got, e := Parse(s)
	tree := g.pattern(s)
	if tree == nil {
		if e != api.ErrPattern || len(got) != 0 {
			t.Fatalf("P4.1: Parse(%q) = %v, %d, want %d", s, got, e, api.ErrPattern)
		}
		return
	}
	if want := tree.nodes(nil); e != api.OK || !slices.EqualFunc(got, want, same) {
		t.Fatalf("P4.1: Parse(%q) = %v, %d, want %v", s, got, e, want)
	}
	if e := Check(got); e != api.OK {
		t.Fatalf("P4.4: Check of Parse(%q) = %d", s, e)
	}
}

// TestParseOfAllTexts compares Parse with the definition for all short texts.
func TestParseOfAllTexts(t *testing.T) {
	for _, c := range []struct {
		alphabet string
		length   int
	}{
		{"a|()*^", 6}, {"a+?.$\\b|", 5}, {"a{}0129,", 5}, {"a{,1}", 6}, {"[]^-ab", 6}, {"[]:-\\[", 6}, {"(|)[]\\*", 6},
	} {
		g := grammar{}
		testkit.Texts(c.alphabet, c.length, func(s string) { compare(t, g, s) })
	}
}

// TestParseOfWords compares Parse with the definition for texts of longer parts.
func TestParseOfWords(t *testing.T) {
	parts := []string{"[:digit:]", "[:upper", ":]", "[", "]", "-", "^", "(", ")", "{2,100}", "{3,", "9", "}", "*", "|", "\\", "z"}
	g := grammar{}
	letters := "abcdefghijklmnopq"[:len(parts)]
	testkit.Texts(letters, 4, func(picks string) {
		s := ""
		for i := range len(picks) {
			s += parts[picks[i]-'a']
		}
		compare(t, g, s)
	})
}

// TestLongPatterns checks P4.4 for the patterns of the greatest length with the most nodes.
func TestLongPatterns(t *testing.T) {
	for _, s := range []string{
		strings.Repeat("|", api.MaxPattern), strings.Repeat("a*", api.MaxPattern/2), strings.Repeat("(|)", api.MaxPattern/3), strings.Repeat("()", api.MaxPattern/2), strings.Repeat("(a|)*", api.MaxPattern/5),
	} {
		got, e := Parse(s)
		if e != api.OK || Check(got) != api.OK {
			t.Errorf("P4.4: Parse(%.30q..) has %d nodes and the error %d", s, len(got), e)
		}
	}
	got, _ := Parse(strings.Repeat("|", api.MaxPattern))
	if len(got) != api.MaxPattern+2 || len(got[len(got)-1].Kids) != api.MaxPattern+1 {
		t.Errorf("P4.1: %d nodes of %d alternatives", len(got), api.MaxPattern+1)
	}
}
