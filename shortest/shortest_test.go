package shortest

import (
	"math"
	"math/rand"
	"slices"
	"testing"

	"mergelens/api"
	"mergelens/testkit"
)

// TestScript checks results that are written out.
func TestScript(t *testing.T) {
	for _, c := range []struct {
		a, b     string
		distance int
		want     []api.Change
	}{
		{"", "", 0, nil}, {"", "a", 1, changes([4]int{0, 0, 0, 1})}, {"a", "", 1, changes([4]int{0, 1, 0, 0})}, {"", "aab", 3, changes([4]int{0, 0, 0, 3})}, {"aab", "", 3, changes([4]int{0, 3, 0, 0})}, {"a", "a", 0, nil}, {"abc", "abc", 0, nil}, {"a", "b", 2, changes([4]int{0, 1, 0, 1})}, {"ab", "cde", 5, changes([4]int{0, 2, 0, 3})},
		{"123", "24", 3, changes([4]int{0, 1, 0, 0}, [4]int{2, 1, 1, 1})}, {"ab", "ac", 2, changes([4]int{1, 1, 1, 1})}, {"xac", "xbc", 2, changes([4]int{1, 1, 1, 1})}, {"abc", "b", 2, changes([4]int{0, 1, 0, 0}, [4]int{2, 1, 1, 0})}, {"b", "abc", 2, changes([4]int{0, 0, 0, 1}, [4]int{1, 0, 2, 1})},
		// Equal lines are partners at once, though a later partner were as good.
		{"a", "aa", 1, changes([4]int{1, 0, 1, 1})}, {"aa", "a", 1, changes([4]int{1, 1, 1, 0})}, {"aba", "a", 2, changes([4]int{1, 2, 1, 0})}, {"a", "aba", 2, changes([4]int{1, 0, 1, 2})}, {"ab", "aab", 1, changes([4]int{1, 0, 1, 1})}, {"xx", "xyx", 1, changes([4]int{1, 0, 1, 1})},
		// Where both are on a shortest way, a line is removed rather than added.
		{"ab", "ba", 2, changes([4]int{0, 1, 0, 0}, [4]int{2, 0, 1, 1})}, {"abc", "cab", 2, changes([4]int{0, 0, 0, 1}, [4]int{2, 1, 3, 0})}, {"abc", "bca", 2, changes([4]int{0, 1, 0, 0}, [4]int{3, 0, 2, 1})}, {"abcd", "badc", 4, changes([4]int{0, 1, 0, 0}, [4]int{2, 1, 1, 1}, [4]int{4, 0, 3, 1})}, {"ac", "bc", 2, changes([4]int{0, 1, 0, 1})}, {"ab", "bb", 2, changes([4]int{0, 1, 0, 0}, [4]int{2, 0, 1, 1})},
		// The removal of the first line is on no shortest way.
		{"ab", "cab", 1, changes([4]int{0, 0, 0, 1})}, {"abab", "baba", 2, changes([4]int{0, 1, 0, 0}, [4]int{4, 0, 3, 1})}, {"abcabba", "cbabac", 5, changes([4]int{0, 2, 0, 0}, [4]int{3, 1, 1, 0}, [4]int{5, 0, 2, 1}, [4]int{7, 0, 5, 1})}, {"aab", "baab", 1, changes([4]int{0, 0, 0, 1})}, {"ab", "xyab", 2, changes([4]int{0, 0, 0, 2})}, {"acb", "xab", 2, changes([4]int{0, 0, 0, 1}, [4]int{1, 1, 2, 0})},
	} {
		a, b := numbers(c.a), numbers(c.b)
		if got, e := Script(a, b); e != api.OK || !slices.Equal(got, c.want) {
			t.Errorf("P9.1: Script(%q, %q) = %v, %d, want %v", c.a, c.b, got, e, c.want)
		}
		if got, e := Distance(a, b); e != api.OK || got != c.distance {
			t.Errorf("P9.1: Distance(%q, %q) = %d, %d, want %d", c.a, c.b, got, e, c.distance)
		}
		if got, e := Common(a, b); e != api.OK || got != (len(a)+len(b)-c.distance)/2 {
			t.Errorf("P9.1: Common(%q, %q) = %d, %d, with the distance %d", c.a, c.b, got, e, c.distance)
		}
	}
}

// TestDefinition compares all functions with their definitions for all texts of a few lines, by all scripts that fit them or their rests.
func TestDefinition(t *testing.T) {
	for alphabet, length := range map[string]int{"abc": 4, "ab": 5} {
		scripts := map[[2]int][][]api.Change{}
		for m := range length + 1 {
			for n := range length + 1 {
				scripts[[2]int{m, n}] = testkit.Scripts(m, n)
			}
		}
		type texts struct{ a, b string }
		known := map[texts]int{}
		testkit.Texts(alphabet, length, func(a string) {
			testkit.Texts(alphabet, length, func(b string) {
				distance, common := lengths(numbers(a), numbers(b), scripts[[2]int{len(a), len(b)}])
				known[texts{a, b}] = distance
				if got, e := Common(numbers(a), numbers(b)); e != api.OK || got != common {
					t.Fatalf("P9.1: Common(%q, %q) = %d, %d, want %d", a, b, got, e, common)
				}
			})
		})
		for s, distance := range known {
			compare(t, numbers(s.a), numbers(s.b), func(i, j int) int { return known[texts{s.a[i:], s.b[j:]}] })
			if (distance == 0) != (s.a == s.b) || distance != known[texts{s.b, s.a}] {
				t.Fatalf("P9.3: the distance of %q and %q is %d, that of %q and %q %d", s.a, s.b, distance, s.b, s.a, known[texts{s.b, s.a}])
			}
		}
	}
}

// TestTriangles checks, as P9.3 says, for all short texts that no way by a third one is shorter.
func TestTriangles(t *testing.T) {
	var texts [][]int
	testkit.Texts("abc", 4, func(s string) { texts = append(texts, numbers(s)) })
	between := make([][]int, len(texts))
	for i, a := range texts {
		between[i] = make([]int, len(texts))
		for j, b := range texts {
			between[i][j], _ = Distance(a, b)
		}
	}
	for i, a := range texts {
		for j, b := range texts {
			for k, c := range texts {
				if between[i][k] > between[i][j]+between[j][k] {
					t.Fatalf("P9.3: the distances of %v, %v and %v are %d and %d, but %d from the first to the last", a, b, c, between[i][j], between[j][k], between[i][k])
				}
			}
		}
	}
}

// TestAllTexts compares all functions with their definitions for all texts of some more lines.
func TestAllTexts(t *testing.T) {
	for alphabet, length := range map[string]int{"abc": 5, "ab": 7} {
		var texts [][]int
		testkit.Texts(alphabet, length, func(s string) { texts = append(texts, numbers(s)) })
		for _, a := range texts {
			for _, b := range texts {
				compare(t, a, b, distances(a, b))
			}
		}
	}
}

// random returns a text of so many lines with at most so many different numbers.
func random(r *rand.Rand, lines, different int) []int {
	text := make([]int, lines)
	for i := range text {
		text[i] = r.Intn(different)
	}
	return text
}

// edited returns what some changes of a few lines each make of a text.
func edited(r *rand.Rand, text []int, edits, different int) []int {
	text = slices.Clone(text)
	for range edits {
		from := r.Intn(len(text) + 1)
		to := min(from+r.Intn(4), len(text))
		text = slices.Replace(text, from, to, random(r, r.Intn(4), different)...)
	}
	return text
}

// TestMixedTexts compares all functions with their definitions for texts of some lines, among them as many as fill words of 64 bits, a line less and a line more.
func TestMixedTexts(t *testing.T) {
	r := rand.New(rand.NewSource(9))
	lines := []int{0, 1, 2, 31, 32, 33, 62, 63, 64, 65, 66, 127, 128, 129, 191, 192, 193, 200}
	for _, m := range lines {
		for _, n := range lines {
			for _, different := range []int{1, 2, 3, 5, 20, 1000} {
				a, b := random(r, m, different), random(r, n, different)
				compare(t, a, b, distances(a, b))
				common := random(r, r.Intn(70), different)
				a, b = slices.Concat(common, a, common), slices.Concat(common, b, common)
				compare(t, a, b, distances(a, b))
			}
		}
		for range 50 {
			different := 1 + r.Intn(m+1)
			a := random(r, m, different)
			b := edited(r, a, r.Intn(10), different)
			compare(t, a, b, distances(a, b))
			compare(t, b, a, distances(b, a))
		}
	}
}

// TestBlocks compares all functions with their definitions for texts in which a line of one has to look for its partner over many lines of the other, in one word of bits or in several.
func TestBlocks(t *testing.T) {
	for _, long := range []int{1, 62, 63, 64, 65, 127, 128, 129, 200} {
		for _, before := range []int{0, 1, 63, 64, 65} {
			for _, after := range []int{0, 1, 63, 64, 65} {
				a := slices.Concat(slices.Repeat([]int{1}, before), []int{2}, slices.Repeat([]int{3}, long), []int{2}, slices.Repeat([]int{4}, after))
				for _, b := range [][]int{{2}, {2, 2}, {2, 2, 2}, {2, 3}, {3, 2}, {3, 2, 3}, {2, 3, 2, 3}, {4, 2}, {1, 2}, {1, 2, 4}, {4, 2, 1}, {2, 1, 3, 2}, {5}, {5, 2, 5, 2, 5}, {4, 3, 2, 1}} {
					compare(t, a, b, distances(a, b))
					compare(t, b, a, distances(b, a))
				}
			}
		}
	}
}

// TestExtremeNumbers checks R3: lines are equal only if all bits of their numbers are.
func TestExtremeNumbers(t *testing.T) {
	odd := []int{math.MinInt, math.MinInt + 1, -1 << 32, -1 << 31, -4096, -1, 0, 1, 63, 64, 4096, 1 << 31, 1 << 32, 1<<32 + 1, 1 << 62, math.MaxInt - 1, math.MaxInt}
	for _, x := range odd {
		for _, y := range odd {
			want := changes([4]int{0, 1, 0, 1})
			if x == y {
				want = nil
			}
			if got, e := Script([]int{x}, []int{y}); e != api.OK || !slices.Equal(got, want) {
				t.Errorf("R3: Script(%d, %d) = %v, %d", x, y, got, e)
			}
			for _, z := range odd {
				a, b := []int{x, y, z}, []int{z, x, x, y}
				compare(t, a, b, distances(a, b))
			}
		}
	}
	r := rand.New(rand.NewSource(9))
	for range 1000 {
		var a, b []int
		for range r.Intn(20) {
			a, b = append(a, odd[r.Intn(len(odd))]), append(b, odd[r.Intn(len(odd))])
		}
		compare(t, a, b, distances(a, b))
	}
}

// TestLongestTexts checks texts of as many lines as possible.
func TestLongestTexts(t *testing.T) {
	const most = api.MaxLines
	r := rand.New(rand.NewSource(9))
	rising := make([]int, most)
	for i := range rising {
		rising[i] = i
	}
	falling := slices.Clone(rising)
	slices.Reverse(falling)
	binary := random(r, most, 2)
	for _, c := range [][2][]int{
		{rising, falling}, {rising, r.Perm(most)}, {rising, edited(r, rising[20:most-20], 5, most)}, {edited(r, rising[200:most-200], 50, most), rising}, {binary, random(r, most, 2)}, {binary, binary[1:]}, {binary[1:], binary}, {random(r, most, 100), random(r, most, 100)}, {rising, slices.Repeat([]int{-1}, most)}, {rising, binary[:1]}, {falling[:1], rising}, {nil, rising}, {rising, nil}, {make([]int, most), make([]int, most-1)},
	} {
		compare(t, c[0], c[1], distances(c[0], c[1]))
	}
	if got, e := Script(rising, slices.Clone(rising)); e != api.OK || len(got) > 0 {
		t.Errorf("P9.1: Script of equal texts = %v, %d", testkit.Head(got), e)
	}
	if got, e := Distance(rising, slices.Repeat([]int{-1}, most)); e != api.OK || got != 2*most {
		t.Errorf("P9.1: Distance of texts without equal lines = %d, %d", got, e)
	}
}

// TestLimits checks that the first three functions accept MaxLines lines and no more, in either text.
func TestLimits(t *testing.T) {
	most := make([]int, api.MaxLines)
	more := make([]int, api.MaxLines+1)
	other := append(slices.Clone(most), 1)
	far := make([]int, 1<<22)
	for _, c := range []struct {
		a, b []int
		want api.Errno
	}{
		{most, most, api.OK}, {most, nil, api.OK}, {nil, most, api.OK}, {more, nil, api.ErrLimit}, {nil, more, api.ErrLimit}, {more, most, api.ErrLimit}, {most, more, api.ErrLimit}, {more, more, api.ErrLimit}, {more, other, api.ErrLimit}, {other, most, api.ErrLimit}, {most, other, api.ErrLimit}, {far, nil, api.ErrLimit}, {nil, far, api.ErrLimit}, {far, far, api.ErrLimit}, {far, most, api.ErrLimit},
	} {
		distance, e := Distance(c.a, c.b)
		l, f := Script(c.a, c.b)
		common, g := Common(c.a, c.b)
		if e != c.want || f != c.want || g != c.want {
			t.Errorf("P9.1: the errors for %d and %d lines are %d, %d and %d, want %d", len(c.a), len(c.b), e, f, g, c.want)
		}
		if c.want != api.OK && (distance != 0 || len(l) > 0 || common != 0) {
			t.Errorf("R2: the results for %d and %d lines are %d, %v and %d", len(c.a), len(c.b), distance, testkit.Head(l), common)
		}
	}
}
