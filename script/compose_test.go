package script

import (
	"math"
	"math/rand"
	"slices"
	"testing"

	"mergelens/api"
	"mergelens/testkit"
)

// TestInvert checks results that are written out, of scripts and of other lists.
func TestInvert(t *testing.T) {
	for _, c := range []struct{ l, want []api.Change }{
		{nil, nil}, {changes(), nil}, {changes([4]int{1, 2, 3, 4}), changes([4]int{3, 4, 1, 2})}, {changes([4]int{0, 1, 0, 0}, [4]int{2, 0, 1, 1}), changes([4]int{0, 0, 0, 1}, [4]int{1, 1, 2, 0})}, {changes([4]int{0, 0, 0, 0}), changes([4]int{0, 0, 0, 0})},
		{changes([4]int{9, 8, 7, 6}, [4]int{5, 4, 3, 2}), changes([4]int{7, 6, 9, 8}, [4]int{3, 2, 5, 4})}, {changes([4]int{math.MinInt, -1, math.MaxInt, api.MaxLines + 1}), changes([4]int{math.MaxInt, api.MaxLines + 1, math.MinInt, -1})},
	} {
		if got := Invert(c.l); !slices.Equal(got, c.want) {
			t.Errorf("P8.3: Invert(%v) = %v, want %v", c.l, got, c.want)
		}
		if got := Invert(Invert(c.l)); !slices.Equal(got, c.l) {
			t.Errorf("P8.5: Invert(Invert(%v)) = %v", c.l, got)
		}
	}
}

// TestAllInversions checks for all short scripts that the inverse is a script in which the partners are exchanged.
func TestAllInversions(t *testing.T) {
	testkit.EachScript(5, func(l []api.Change, m, n int) {
		inverse := Invert(l)
		want := partnersOf(l, m, n)
		for i, s := range want {
			want[i] = api.Span{From: s.To, To: s.From}
		}
		if !valid(inverse, n, m) || !slices.Equal(partnersOf(inverse, n, m), want) {
			t.Fatalf("P8.3: Invert(%v) = %v", l, inverse)
		}
		if got := Invert(inverse); !slices.Equal(got, l) {
			t.Fatalf("P8.5: Invert(Invert(%v)) = %v", l, got)
		}
	})
}

// TestCompose checks results that are written out.
func TestCompose(t *testing.T) {
	for _, c := range []struct {
		x, y, want []api.Change
		m, k, n    int
	}{
		{nil, nil, nil, 0, 0, 0}, {nil, nil, nil, 3, 3, 3}, {changes([4]int{1, 1, 1, 0}), nil, changes([4]int{1, 1, 1, 0}), 3, 2, 2}, {nil, changes([4]int{1, 1, 1, 0}), changes([4]int{1, 1, 1, 0}), 3, 3, 2},
		{changes([4]int{1, 1, 1, 0}), changes([4]int{0, 1, 0, 2}), changes([4]int{0, 2, 0, 2}), 3, 2, 3}, {changes([4]int{0, 0, 0, 1}), changes([4]int{0, 1, 0, 0}), nil, 2, 3, 2}, {changes([4]int{0, 1, 0, 0}), changes([4]int{0, 0, 0, 1}), changes([4]int{0, 1, 0, 1}), 3, 2, 3}, {changes([4]int{0, 2, 0, 0}), changes([4]int{0, 0, 0, 3}), changes([4]int{0, 2, 0, 3}), 2, 0, 3}, {changes([4]int{0, 0, 0, 2}), changes([4]int{0, 2, 0, 0}), nil, 0, 2, 0},
		{changes([4]int{0, 1, 0, 1}), changes([4]int{2, 1, 2, 1}), changes([4]int{0, 1, 0, 1}, [4]int{2, 1, 2, 1}), 3, 3, 3}, {changes([4]int{1, 0, 1, 1}), changes([4]int{1, 1, 1, 2}), changes([4]int{1, 0, 1, 2}), 2, 3, 4}, {changes([4]int{1, 0, 1, 2}), changes([4]int{2, 2, 2, 0}), changes([4]int{1, 1, 1, 1}), 3, 5, 3},
	} {
		if got, e := Compose(c.x, c.y, c.m, c.k, c.n); e != api.OK || !slices.Equal(got, c.want) {
			t.Errorf("P8.3: Compose(%v, %v, %d, %d, %d) = %v, %d, want %v", c.x, c.y, c.m, c.k, c.n, got, e, c.want)
		}
	}
}

// TestComposeErrors checks that both lists must be scripts for their lengths.
func TestComposeErrors(t *testing.T) {
	add, remove := changes([4]int{0, 0, 0, 1}), changes([4]int{0, 1, 0, 0})
	for _, c := range []struct {
		x, y    []api.Change
		m, k, n int
	}{
		{add, remove, 2, 2, 1}, {add, remove, 2, 3, 3}, {remove, add, 2, 2, 2}, {remove, remove, 2, 0, 0}, {remove, remove, 1, 0, -1}, {add, nil, 1, 2, 3}, {nil, add, 1, 2, 3}, {nil, nil, 1, 2, 1}, {nil, nil, 1, 1, 2}, {nil, nil, 2, 1, 1},
		{nil, nil, -1, -1, -1}, {remove, add, 0, -1, 0}, {nil, nil, api.MaxLines + 1, api.MaxLines + 1, api.MaxLines + 1}, {add, remove, api.MaxLines, api.MaxLines + 1, api.MaxLines}, {remove, nil, api.MaxLines + 1, api.MaxLines, api.MaxLines}, {nil, add, api.MaxLines, api.MaxLines, api.MaxLines + 1}, {changes([4]int{0, 0, 0, 0}), nil, 1, 1, 1}, {nil, changes([4]int{0, 0, 0, 0}), 1, 1, 1},
	} {
		if got, e := Compose(c.x, c.y, c.m, c.k, c.n); e != api.ErrScript || len(got) > 0 {
			t.Errorf("P8.3: Compose(%v, %v, %d, %d, %d) = %v, %d, want %d", c.x, c.y, c.m, c.k, c.n, got, e, api.ErrScript)
		}
	}
}

// through is the definition of the pairs of a composition.
func through(x, y []api.Span) []api.Span {
	var p []api.Span
	for _, s := range x {
		for _, r := range y {
			if s.To == r.From {
				p = append(p, api.Span{From: s.From, To: r.To})
			}
		}
	}
	return p
}

// compareCompose compares Compose with the definition, and its inverse with P8.5. It returns the composition.
func compareCompose(t *testing.T, x, y []api.Change, m, k, n int) []api.Change {
	t.Helper()
	got, e := Compose(x, y, m, k, n)
	want := through(partnersOf(x, m, k), partnersOf(y, k, n))
	if e != api.OK || !valid(got, m, n) || !slices.Equal(partnersOf(got, m, n), want) {
		t.Fatalf("P8.3: Compose(%v, %v, %d, %d, %d) = %v, %d, want the pairs %v", x, y, m, k, n, got, e, want)
	}
	if back, e := Compose(Invert(y), Invert(x), n, k, m); e != api.OK || !slices.Equal(back, Invert(got)) {
		t.Fatalf("P8.5: Compose of the inverses of %v and %v = %v, %d, want %v", y, x, back, e, Invert(got))
	}
	return got
}

// TestAllCompositions compares Compose with the definition for all short scripts.
func TestAllCompositions(t *testing.T) {
	const most = 4
	testkit.EachScript(most, func(x []api.Change, m, k int) {
		for n := range most + 1 {
			for _, y := range scripts(k, n) {
				compareCompose(t, x, y, m, k, n)
			}
		}
	})
}

// TestAssociative checks P8.5 for all triples of very short scripts.
func TestAssociative(t *testing.T) {
	const most = 3
	testkit.EachScript(most, func(x []api.Change, m, k int) {
		testkit.EachScript(most, func(z []api.Change, n, o int) {
			for _, y := range scripts(k, n) {
				checkAssociative(t, x, y, z, [4]int{m, k, n, o})
			}
		})
	})
}

// checkAssociative checks that both compositions of three scripts, for texts of the given numbers of lines, are equal.
func checkAssociative(t *testing.T, x, y, z []api.Change, lines [4]int) {
	t.Helper()
	m, k, n, o := lines[0], lines[1], lines[2], lines[3]
	left := compareCompose(t, compareCompose(t, x, y, m, k, n), z, m, n, o)
	right := compareCompose(t, x, compareCompose(t, y, z, k, n, o), m, k, o)
	if !slices.Equal(left, right) {
		t.Fatalf("P8.5: the compositions of %v, %v and %v are %v and %v", x, y, z, left, right)
	}
}

// mixed returns a script for m and n lines.
func mixed(t *testing.T, r *rand.Rand, m, n int) []api.Change {
	t.Helper()
	var p []api.Span
	for i, j := r.Intn(4), r.Intn(4); i < m && j < n; i, j = i+1, j+1 {
		p = append(p, api.Span{From: i, To: j})
		if r.Intn(3) == 0 {
			i, j = i+r.Intn(4), j+r.Intn(4)
		}
	}
	l, e := FromPairs(p, m, n)
	if e != api.OK || !valid(l, m, n) || !slices.Equal(partnersOf(l, m, n), p) {
		t.Fatalf("P8.2: FromPairs(%v, %d, %d) = %v, %d", p, m, n, l, e)
	}
	return l
}

// TestMixedScripts checks longer scripts: Pairs, Compose and P8.5.
func TestMixedScripts(t *testing.T) {
	r := rand.New(rand.NewSource(8))
	for range 3000 {
		m, k, n, o := r.Intn(30), r.Intn(30), r.Intn(30), r.Intn(30)
		x, y, z := mixed(t, r, m, k), mixed(t, r, k, n), mixed(t, r, n, o)
		checkAssociative(t, x, y, z, [4]int{m, k, n, o})
		if p, e := Pairs(x, m, k); e != api.OK || !slices.Equal(p, partnersOf(x, m, k)) {
			t.Fatalf("P8.2: Pairs(%v, %d, %d) = %v, %d", x, m, k, p, e)
		}
	}
}

// TestFits checks results that are written out.
func TestFits(t *testing.T) {
	first := changes([4]int{1, 1, 1, 0})
	for _, c := range []struct {
		l    []api.Change
		a, b []int
		want bool
	}{
		{nil, nil, nil, true}, {nil, []int{1}, []int{1}, true}, {nil, []int{1}, []int{2}, false}, {nil, []int{1}, nil, false}, {nil, []int{1, 2}, []int{1, 3}, false}, {nil, []int{math.MinInt, math.MaxInt}, []int{math.MinInt, math.MaxInt}, true}, {nil, []int{math.MinInt}, []int{math.MaxInt}, false}, {nil, []int{0}, []int{1 << 32}, false}, {nil, []int{-1}, []int{-1}, true},
		{first, []int{1, 2, 3}, []int{1, 3}, true}, {first, []int{1, 2, 3}, []int{1, 2}, false}, {first, []int{1, 2, 3}, []int{2, 3}, false}, {first, []int{1, 2}, []int{1}, true}, {first, []int{1, 2}, []int{1, 2}, false}, {first, []int{1}, nil, false}, {first, []int{1, 1, 1}, []int{1, 1}, true},
		{changes([4]int{0, 1, 0, 1}), []int{1}, []int{1}, true}, {changes([4]int{0, 1, 0, 1}), []int{1}, []int{2}, true}, {changes([4]int{0, 0, 0, 0}), []int{1}, []int{1}, false}, {changes([4]int{0, 1, 0, 0}, [4]int{2, 0, 1, 1}), []int{5, 6}, []int{6, 7}, true}, {changes([4]int{0, 1, 0, 0}, [4]int{2, 0, 1, 1}), []int{5, 6}, []int{5, 6}, false}, {changes([4]int{0, 2, 0, 3}), []int{1, 2}, []int{3, 4, 5}, true}, {changes([4]int{-1, 1, -1, 1}), []int{1}, []int{1}, false},
	} {
		if got := Fits(c.l, c.a, c.b); got != c.want {
			t.Errorf("P8.4: Fits(%v, %v, %v) = %v, want %v", c.l, c.a, c.b, got, c.want)
		}
	}
	long := make([]int, api.MaxLines+1)
	if !Fits(nil, long[1:], long[1:]) || Fits(nil, long, long) || Fits(changes([4]int{0, 0, 0, 1}), long[1:], long) {
		t.Errorf("P8.4: Fits of texts of %d lines", api.MaxLines)
	}
	other := append(make([]int, api.MaxLines-1), 1)
	if Fits(nil, long[1:], other) || !Fits(changes([4]int{api.MaxLines - 1, 1, api.MaxLines - 1, 1}), long[1:], other) {
		t.Error("P8.4: Fits of long texts that differ in the last line")
	}
}

// TestAllFits compares Fits with the definition for all short scripts and texts, the script being one for their lengths or not.
func TestAllFits(t *testing.T) {
	var texts [][]int
	testkit.Texts("01", 3, func(s string) { texts = append(texts, testkit.Numbers(s)) })
	testkit.EachScript(3, func(l []api.Change, _, _ int) {
		for _, a := range texts {
			for _, b := range texts {
				want := valid(l, len(a), len(b))
				if want {
					want = !slices.ContainsFunc(partnersOf(l, len(a), len(b)), func(s api.Span) bool { return a[s.From] != b[s.To] })
				}
				if got := Fits(l, a, b); got != want {
					t.Fatalf("P8.4: Fits(%v, %v, %v) = %v, want %v", l, a, b, got, want)
				}
			}
		}
	})
}
