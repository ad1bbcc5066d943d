package lost

import (
	"slices"
	"testing"

	"mergelens/api"
	"mergelens/testkit"
)

// most is the greatest number of lines of a list.
const most = api.MaxLines

// ascending returns a list of different lines.
func ascending(from, length int) []int {
	list := make([]int, length)
	for i := range list {
		list[i] = from + i
	}
	return list
}

// refuses checks that Coalesce returns ErrLimit and nothing else.
func refuses(t *testing.T, name string, lists [][]int) {
	t.Helper()
	if l, e := Coalesce(lists); e != api.ErrLimit || len(l) > 0 {
		t.Errorf("P15.1: Coalesce of %s = %v, %d, want ErrLimit", name, testkit.Head(l), e)
	}
}

// TestMostParents checks the limit of the number of lists.
func TestMostParents(t *testing.T) {
	for _, list := range [][]int{nil, {1}, ascending(0, 50)} {
		compare(t, slices.Repeat([][]int{list}, api.MaxParents))
		refuses(t, "33 lists", slices.Repeat([][]int{list}, api.MaxParents+1))
		refuses(t, "300 lists", slices.Repeat([][]int{list}, 300))
	}
	refuses(t, "33 long lists", slices.Repeat([][]int{repeated(1, most+1)}, api.MaxParents+1))
	refuses(t, "many lists", make([][]int, 1<<20))
}

// TestMostLines checks the limit of each list, also when it is equal to the lists before it.
func TestMostLines(t *testing.T) {
	for _, parents := range []int{1, 2, 3, 4} {
		long := slices.Repeat([][]int{repeated(1, most)}, parents)
		if l := compare(t, long); len(l) != most {
			t.Errorf("P15.3: %d copies of a list are merged to %d elements, not %d", parents, len(l), most)
		}
		refuses(t, "longer equal lists", slices.Repeat([][]int{repeated(1, most+1)}, parents))
		for p := range parents {
			lists := make([][]int, parents)
			lists[p] = ascending(0, most)
			compare(t, lists)
			lists[p] = ascending(0, most+1)
			refuses(t, "a longer list", lists)
			long[p] = repeated(1, most+1)
			refuses(t, "long lists and a longer one", long)
			long[p] = repeated(1, most)
		}
	}
}

// TestMostElements checks the limit of the merged list, which is that of a text of which there is a script: it matters only if one more list follows.
func TestMostElements(t *testing.T) {
	half := most / 2
	for _, c := range []struct {
		lists    [][]int
		elements int
	}{
		{[][]int{ascending(0, half), ascending(half, half)}, most}, {[][]int{ascending(0, half), ascending(half, half), nil}, most}, {[][]int{ascending(0, half), ascending(half, half), ascending(0, most)}, most},
		{[][]int{ascending(0, half), ascending(half, half+1)}, most + 1}, {[][]int{ascending(0, most), ascending(most, most)}, 2 * most}, {[][]int{ascending(0, most), {-1}}, most + 1}, {[][]int{ascending(0, most), ascending(1, most)}, most + 1},
		{[][]int{nil, ascending(0, most), nil, ascending(most, most)}, 2 * most}, {[][]int{{1}, {2}, ascending(3, most-2), ascending(0, most)}, most + 1},
	} {
		if l := compare(t, c.lists); len(l) != c.elements {
			t.Errorf("P15.1: the merged list has %d elements, not %d", len(l), c.elements)
		}
		more := append(slices.Clone(c.lists), nil)
		if c.elements <= most {
			compare(t, more)
			continue
		}
		refuses(t, "a list after more elements than a text may have", more)
		refuses(t, "two lists after more elements than a text may have", append(more, []int{1}))
	}
}

// TestManyElements compares the functions with their definitions for the most parents and many elements.
func TestManyElements(t *testing.T) {
	lists := make([][]int, api.MaxParents)
	for p := range lists {
		lists[p] = append(ascending(-3*p, 4), repeated(100+p%2, most/2-500+9*p)...)
		lists[p] = append(lists[p], ascending(5*p, 60)...)
	}
	compare(t, lists)
}
