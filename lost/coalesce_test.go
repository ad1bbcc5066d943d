package lost

import (
	"math/rand"
	"slices"
	"testing"

	"mergelens/api"
	"mergelens/testkit"
)

// merged is an element that is written as a byte and a set of parents.
type merged struct {
	line    byte
	parents uint32
}

// TestCoalesce checks results that are written out.
func TestCoalesce(t *testing.T) {
	for _, c := range []struct {
		lists []string
		want  []merged
	}{
		{nil, nil}, {[]string{""}, nil}, {[]string{"", "", ""}, nil}, {[]string{"a"}, []merged{{'a', 1}}}, {[]string{"aba"}, []merged{{'a', 1}, {'b', 1}, {'a', 1}}}, {[]string{"", "ab"}, []merged{{'a', 2}, {'b', 2}}}, {[]string{"ab", ""}, []merged{{'a', 1}, {'b', 1}}},
		{[]string{"12", "23"}, []merged{{'1', 1}, {'2', 3}, {'3', 2}}}, {[]string{"ab", "ab", "ab"}, []merged{{'a', 7}, {'b', 7}}}, {[]string{"", "7", "", "78"}, []merged{{'7', 10}, {'8', 8}}},
		// The lines of the earlier parents come first where none are equal.
		{[]string{"ab", "cd", "ef"}, []merged{{'a', 1}, {'b', 1}, {'c', 2}, {'d', 2}, {'e', 4}, {'f', 4}}}, {[]string{"b", "a"}, []merged{{'b', 1}, {'a', 2}}}, {[]string{"axb", "cxd"}, []merged{{'a', 1}, {'c', 2}, {'x', 3}, {'b', 1}, {'d', 2}}},
		// The lines that a third parent adds are between the partners, behind all other elements there.
		{[]string{"xay", "xby", "xcy"}, []merged{{'x', 7}, {'a', 1}, {'b', 2}, {'c', 4}, {'y', 7}}}, {[]string{"xay", "xby", "xcby"}, []merged{{'x', 7}, {'a', 1}, {'c', 4}, {'b', 6}, {'y', 7}}}, {[]string{"a", "b", "ca"}, []merged{{'c', 4}, {'a', 5}, {'b', 2}}},
		// An element may be shared by parents that are not neighbours.
		{[]string{"a", "b", "a"}, []merged{{'a', 5}, {'b', 2}}}, {[]string{"a", "b", "b", "a"}, []merged{{'a', 9}, {'b', 6}}}, {[]string{"", "ab", "a", "b"}, []merged{{'a', 6}, {'b', 10}}},
		// Equal lines that no shortest script matches are elements of their own.
		{[]string{"ab", "ba"}, []merged{{'a', 1}, {'b', 3}, {'a', 2}}}, {[]string{"ab", "", "ba"}, []merged{{'a', 1}, {'b', 5}, {'a', 4}}}, {[]string{"ab", "ba", "aba"}, []merged{{'a', 5}, {'b', 7}, {'a', 6}}}, {[]string{"a", "aa", "aaa"}, []merged{{'a', 7}, {'a', 6}, {'a', 4}}}, {[]string{"aaa", "aa", "a"}, []merged{{'a', 7}, {'a', 3}, {'a', 1}}}, {[]string{"abc", "cab"}, []merged{{'c', 2}, {'a', 3}, {'b', 3}, {'c', 1}}},
		// The order of the parents decides.
		{[]string{"ba", "ab"}, []merged{{'b', 1}, {'a', 3}, {'b', 2}}}, {[]string{"ab", "c", "b"}, []merged{{'a', 1}, {'b', 5}, {'c', 2}}}, {[]string{"c", "ab", "b"}, []merged{{'c', 1}, {'a', 2}, {'b', 6}}},
	} {
		var want []api.Merged
		for _, m := range c.want {
			want = append(want, api.Merged{Line: int(m.line), Parents: m.parents})
		}
		if got, e := Coalesce(listsOf(c.lists...)); e != api.OK || !slices.Equal(got, want) {
			t.Errorf("P15.1: Coalesce(%q) = %v, %d, want %v", c.lists, got, e, want)
		}
	}
}

// TestAllLists compares the functions with their definitions for all short lists of a few parents.
func TestAllLists(t *testing.T) {
	for _, c := range []struct {
		parents, length int
		alphabet        string
	}{{1, 5, "abc"}, {2, 4, "abc"}, {2, 5, "ab"}, {3, 3, "ab"}, {3, 2, "abc"}, {4, 2, "ab"}} {
		var texts []string
		testkit.Texts(c.alphabet, c.length, func(s string) { texts = append(texts, s) })
		testkit.EachList(texts, c.parents, func(list []string) { compare(t, listsOf(list...)) })
	}
}

// TestMixedLists compares the functions with their definitions for mixed lists of all numbers of parents, which have many lines in common.
func TestMixedLists(t *testing.T) {
	r := rand.New(rand.NewSource(15))
	for k := range 2000 {
		lists := make([][]int, k%(api.MaxParents+1))
		letters := 1 + r.Intn(20)
		base := make([]int, r.Intn(30))
		for i := range base {
			base[i] = r.Intn(letters)
		}
		for p := range lists {
			for _, line := range base {
				switch r.Intn(8) {
				case 0:
				case 1:
					lists[p] = append(lists[p], r.Intn(letters), line)
				case 2:
					lists[p] = append(lists[p], r.Intn(letters))
				default:
					lists[p] = append(lists[p], line)
				}
			}
		}
		compare(t, lists)
	}
}

// TestEqualLists checks, as P15.3 says, that copies of a list are merged completely.
func TestEqualLists(t *testing.T) {
	r := rand.New(rand.NewSource(3))
	for parents := 1; parents <= api.MaxParents; parents++ {
		for _, length := range []int{0, 1, 7, 40} {
			list := make([]int, length)
			for i := range list {
				list[i] = r.Intn(3)
			}
			lists := make([][]int, parents)
			for p := range lists {
				lists[p] = slices.Clone(list)
			}
			l := compare(t, lists)
			if len(l) != length {
				t.Errorf("P15.3: %d copies of %v are merged to %d elements", parents, list, len(l))
			}
			for _, m := range l {
				if uint64(m.Parents) != 1<<parents-1 {
					t.Errorf("P15.3: in %d copies of a list, the line %d has the parents %b", parents, m.Line, m.Parents)
				}
			}
		}
	}
}

// TestSingleParent checks the bit of each parent when no other one has lines.
func TestSingleParent(t *testing.T) {
	bit := uint32(1)
	for p := range api.MaxParents {
		for parents := p + 1; parents <= api.MaxParents; parents++ {
			lists := make([][]int, parents)
			lists[p] = []int{8, 9}
			if l, e := Coalesce(lists); e != api.OK || !slices.Equal(l, []api.Merged{{Line: 8, Parents: bit}, {Line: 9, Parents: bit}}) {
				t.Errorf("P15.1: of %d parents, only %d has lines: Coalesce = %v, %d", parents, p, l, e)
			}
		}
		bit *= 2
	}
}
