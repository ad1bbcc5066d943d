package regex

import (
	"math"
	"math/rand"
	"slices"
	"strconv"
	"strings"
	"testing"

	"mergelens/api"
	"mergelens/testkit"
)

// hostile lists patterns that are malformed, deep, long or not UTF-8, beside ordinary ones.
func hostile() []string {
	list := []string{"", "a|b*", "(a(b)c)+", "[[:alpha:]_]{2,3}", "\x00", "\xff\xfe", "\\", "[", "[^", "[[:", "a{", "a{1,", "(", ")", "^*", "(((((", "a{99999999999999999999}", "[a-", "\\\\\\", "[\xff-\xff]", "[\x00-\xff]*"}
	for _, s := range []string{"(", ")", "[", "*", "{", "\\", "a{1}", "(|)", "[[:", "^", "|"} {
		list = append(list, strings.Repeat(s, 1<<16), strings.Repeat(s, api.MaxPattern/len(s)))
	}
	for b := range 256 {
		list = append(list, string([]byte{byte(b)}), string([]byte{'[', byte(b)}), string([]byte{'a', '{', byte(b), '}'}), string([]byte{'[', byte(b), '-', 'm', ']'}))
	}
	r := rand.New(rand.NewSource(4))
	const bytes = "()[]{}*+?|.^$\\-:,012alph\xff"
	for range 20000 {
		b := make([]byte, r.Intn(40))
		for i := range b {
			b[i] = bytes[r.Intn(len(bytes))]
		}
		list = append(list, string(b))
	}
	return list
}

// TestNoPanic checks R1 and R2: every call of Parse and Literal returns, and there are no nodes with an error.
func TestNoPanic(t *testing.T) {
	for _, s := range hostile() {
		Literal(s)
		l, e := Parse(s)
		if e != api.OK && e != api.ErrPattern && e != api.ErrLimit || e != api.OK && len(l) != 0 {
			t.Errorf("R2: Parse(%.40q) = %v, %d", s, l, e)
		}
		if e == api.OK && Check(l) != api.OK {
			t.Errorf("P4.4: Check of Parse(%.40q) is an error", s)
		}
	}
}

// TestWrongNodes checks R1, R2 and R3: Check and Weight return for any integers, and there is no weight with an error.
func TestWrongNodes(t *testing.T) {
	extremes := []int{math.MinInt, math.MinInt + 1, math.MinInt32, -2, -1, 0, 1, 6, 7, 100, 101, 1 << 31, 1 << 32, math.MaxInt - 1, math.MaxInt}
	for _, a := range extremes {
		for _, b := range extremes {
			for _, c := range extremes {
				for kind := -1; kind <= 7; kind++ {
					for _, l := range [][]api.Node{{{}, {Kind: kind, Min: a, Max: b, Kids: []int{c}}}, {{}, {Kind: kind, Kids: []int{a, b, c}}}, {{Kind: kind, Min: a, Max: b, Kids: []int{c, c}}, {}}} {
						e := Check(l)
						if n, f := Weight(l); e != f || e != api.OK && (n != 0 || e != api.ErrArg) || n < 0 || n > api.MaxStates+1 {
							t.Fatalf("R2: Check(%v) = %d, Weight = %d, %d", l, e, n, f)
						}
					}
				}
			}
		}
	}
}

// copyOf returns a copy of nodes that shares no memory with them.
func copyOf(l []api.Node) []api.Node {
	l = slices.Clone(l)
	for i := range l {
		l[i].Kids = slices.Clone(l[i].Kids)
	}
	return l
}

// TestArgumentsStay checks that, as R4 says, Check and Weight leave the nodes as they are, even behind their ends.
func TestArgumentsStay(t *testing.T) {
	kids := []int{0, 1, 7}
	l := []api.Node{{}, {Kind: api.NodeSet}, cat(kids[:2]...), {Kind: api.NodeAlt, Kids: kids[:2]}, {Kind: 9}}
	want := copyOf(l)
	for n := range len(l) + 1 {
		Check(l[:n])
		Weight(l[:n])
	}
	if !slices.EqualFunc(l, want, same) || !slices.Equal(kids, []int{0, 1, 7}) {
		t.Errorf("R4: the nodes are %v, the kids %v", l, kids)
	}
}

// TestNewLists checks R4: no list of a result of Parse shares memory with another one or with a later result, not even beyond its length.
func TestNewLists(t *testing.T) {
	const pattern = "(ab|cd|ef)*g|(h|i)+jk{2}|"
	want, e := Parse(pattern)
	if e != api.OK {
		t.Fatalf("R4: Parse(%q) has the error %d", pattern, e)
	}
	want = copyOf(want)
	for i := range want {
		l, _ := Parse(pattern)
		testkit.Spoil(l[i].Kids, 99)
		for j := range want {
			if j != i && !same(l[j], want[j]) {
				t.Errorf("R4: node %d is %v after a change of the kids of node %d", j, l[j], i)
			}
		}
		testkit.Spoil(l, api.Node{Kind: 8})
		if again, _ := Parse(pattern); !slices.EqualFunc(again, want, same) {
			t.Errorf("R4: Parse(%q) = %v after a change of another result", pattern, again)
		}
	}
}

// answers collects the results of calls of all functions.
func answers() []string {
	var list []string
	for _, s := range hostile()[:60] {
		l, e := Parse(s)
		n, f := Weight(l)
		list = append(list, Literal(s), strconv.Itoa(int(e)), strconv.Itoa(n), strconv.Itoa(int(f)), strconv.Itoa(int(Check(l))))
		for _, node := range l {
			list = append(list, strconv.Itoa(node.Kind), strconv.Itoa(node.Min), strconv.Itoa(node.Max), strconv.FormatUint(node.Set[0]^node.Set[1]^node.Set[2]^node.Set[3], 16))
			for _, k := range node.Kids {
				list = append(list, strconv.Itoa(k))
			}
		}
	}
	return list
}

// TestSameResults checks R5: later calls and calls at the same time have the same results.
func TestSameResults(t *testing.T) {
	if !testkit.Same(answers) {
		t.Error("R5: other results of the same calls")
	}
}

// TestUnusedFields checks R6: the fields that a kind does not use are zero.
func TestUnusedFields(t *testing.T) {
	for _, s := range hostile() {
		l, _ := Parse(s)
		for _, n := range l {
			leaf := n.Kind < api.NodeCat
			if n.Kind != api.NodeSet && n.Set != [4]uint64{} || n.Kind != api.NodeRepeat && (n.Min != 0 || n.Max != 0) || leaf && len(n.Kids) != 0 {
				t.Fatalf("R6: Parse(%q) has the node %v", s, n)
			}
		}
	}
}
