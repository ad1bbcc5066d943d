package script

import (
	"math"
	"math/big"
	"slices"
	"testing"

	"mergelens/api"
	"mergelens/testkit"
)

// extremes lists integers in and far out of range.
var extremes = []int{math.MinInt, -1 << 32, -1, 0, 1, 2, api.MaxLines, api.MaxLines + 1, 1 << 32, math.MaxInt - 1, math.MaxInt}

// changes returns the changes with the given fields: Old, OldLen, New and NewLen.
var changes = testkit.Changes

// spans returns the spans with the given From and To.
var spans = testkit.Spans

// valid is the definition of a valid script, with sums and differences of any size.
func valid(l []api.Change, m, n int) bool {
	if min(m, n) < 0 || max(m, n) > api.MaxLines {
		return false
	}
	oldEnd, newEnd := new(big.Int), new(big.Int)
	gap := func(old, now int, least int64) bool {
		before := new(big.Int).Sub(big.NewInt(int64(old)), oldEnd)
		return before.Cmp(new(big.Int).Sub(big.NewInt(int64(now)), newEnd)) == 0 && before.Cmp(big.NewInt(least)) >= 0
	}
	for i, c := range l {
		if min(c.Old, c.OldLen, c.New, c.NewLen) < 0 || c.OldLen == 0 && c.NewLen == 0 {
			return false
		}
		if !gap(c.Old, c.New, int64(min(i, 1))) {
			return false
		}
		oldEnd.Add(big.NewInt(int64(c.Old)), big.NewInt(int64(c.OldLen)))
		newEnd.Add(big.NewInt(int64(c.New)), big.NewInt(int64(c.NewLen)))
	}
	return gap(m, n, 0)
}

// outside returns the lines of a text that are in none of the given ranges, ascending.
func outside(lines int, ranges []api.Span) []int {
	var list []int
	for i := range lines {
		if !slices.ContainsFunc(ranges, func(s api.Span) bool { return s.From <= i && i < s.To }) {
			list = append(list, i)
		}
	}
	return list
}

// partnersOf is the definition of the partners of a valid script: the lines outside of the changes, one by one.
func partnersOf(l []api.Change, m, n int) []api.Span {
	var removed, added []api.Span
	for _, c := range l {
		removed = append(removed, api.Span{From: c.Old, To: c.Old + c.OldLen})
		added = append(added, api.Span{From: c.New, To: c.New + c.NewLen})
	}
	old, now := outside(m, removed), outside(n, added)
	var p []api.Span
	for i := range old {
		p = append(p, api.Span{From: old[i], To: now[i]})
	}
	return p
}

// scripts returns all valid scripts for m and n lines.
var scripts = testkit.Scripts

// compareCheck compares Check with the definition, and the errors of Pairs, Compose and Fits with Check. It returns the error.
func compareCheck(t *testing.T, l []api.Change, m, n int) api.Errno {
	t.Helper()
	want := api.ErrScript
	if valid(l, m, n) {
		want = api.OK
	}
	if got := Check(l, m, n); got != want {
		t.Fatalf("P8.1: Check(%v, %d, %d) = %d, want %d", l, m, n, got, want)
	}
	if p, e := Pairs(l, m, n); e != want || e != api.OK && len(p) > 0 {
		t.Fatalf("P8.2: Pairs(%v, %d, %d) = %v, %d, want the error %d", l, m, n, p, e, want)
	}
	if got, e := Compose(l, nil, m, n, n); e != want || e != api.OK && len(got) > 0 || e == api.OK && !slices.Equal(got, l) {
		t.Fatalf("P8.3: Compose(%v, none, %d, %d, %d) = %v, %d, want the error %d", l, m, n, n, got, e, want)
	}
	if got, e := Compose(nil, l, m, m, n); e != want || e != api.OK && len(got) > 0 || e == api.OK && !slices.Equal(got, l) {
		t.Fatalf("P8.3: Compose(none, %v, %d, %d, %d) = %v, %d, want the error %d", l, m, m, n, got, e, want)
	}
	if min(m, n) >= 0 && max(m, n) <= 2*api.MaxLines {
		if got := Fits(l, make([]int, m), make([]int, n)); got != (want == api.OK) {
			t.Fatalf("P8.4: Fits(%v, %d and %d equal lines) = %v", l, m, n, got)
		}
	}
	return want
}

// TestCheck checks results that are written out.
func TestCheck(t *testing.T) {
	const most, huge = api.MaxLines, math.MaxInt
	for _, c := range []struct {
		l    []api.Change
		m, n int
		ok   bool
	}{
		{nil, 0, 0, true}, {changes(), 1, 1, true}, {nil, 0, 1, false}, {nil, 1, 0, false}, {nil, most, most, true}, {nil, most + 1, most + 1, false}, {nil, most, most + 1, false}, {nil, -1, -1, false}, {nil, huge, huge, false}, {nil, math.MinInt, math.MinInt, false}, {nil, math.MinInt, huge, false},
		{changes([4]int{0, 1, 0, 0}), 1, 0, true}, {changes([4]int{0, 0, 0, 1}), 0, 1, true}, {changes([4]int{0, 2, 0, 3}), 2, 3, true}, {changes([4]int{1, 1, 1, 0}), 3, 2, true}, {changes([4]int{0, 0, 0, 0}), 0, 0, false}, {changes([4]int{1, 0, 1, 0}), 2, 2, false},
		{changes([4]int{0, 1, 1, 0}), 2, 1, false}, {changes([4]int{1, 1, 0, 0}), 3, 2, false}, {changes([4]int{0, 1, 0, 0}), 2, 2, false}, {changes([4]int{0, 1, 0, 1}), 0, 0, false}, {changes([4]int{1, 1, 1, 1}), 1, 1, false}, {changes([4]int{2, 1, 2, 0}), 2, 1, false}, {changes([4]int{-1, 1, -1, 1}), 2, 2, false}, {changes([4]int{-1, 2, -1, 2}), 2, 2, false}, {changes([4]int{1, -1, 1, 1}), 1, 3, false}, {changes([4]int{1, 1, 1, -1}), 3, 1, false}, {changes([4]int{2, -1, 2, -1}), 2, 2, false},
		{changes([4]int{0, 1, 0, 1}, [4]int{2, 1, 2, 0}), 3, 2, true}, {changes([4]int{0, 1, 0, 0}, [4]int{2, 0, 1, 1}), 2, 2, true}, {changes([4]int{0, 1, 0, 1}, [4]int{1, 1, 1, 0}), 2, 1, false}, {changes([4]int{0, 1, 0, 0}, [4]int{1, 0, 0, 1}), 1, 1, false}, {changes([4]int{0, 1, 0, 1}, [4]int{2, 1, 3, 0}), 4, 4, false}, {changes([4]int{0, 1, 0, 1}, [4]int{2, 1, 3, 0}), 3, 3, false}, {changes([4]int{2, 1, 2, 1}, [4]int{0, 1, 0, 1}), 4, 4, false}, {changes([4]int{1, 1, 1, 1}, [4]int{1, 1, 1, 1}), 3, 3, false}, {changes([4]int{1, 2, 1, 2}, [4]int{2, 2, 2, 2}), 5, 5, false},
		{changes([4]int{0, most, 0, most}), most, most, true}, {changes([4]int{0, most, 0, 0}), most, 0, true}, {changes([4]int{0, 0, 0, most}), 0, most, true}, {changes([4]int{0, most + 1, 0, 0}), most + 1, 0, false}, {changes([4]int{0, 0, 0, most + 1}), 0, most + 1, false}, {changes([4]int{most, 0, most, 1}), most, most + 1, false}, {changes([4]int{most - 1, 0, most - 1, 1}), most - 1, most, true}, {changes([4]int{most, 1, most, 1}), most, most, false},
		// Sums that wrap around could make these valid.
		{changes([4]int{huge, huge, huge, huge}), 2, 2, false}, {changes([4]int{huge, 1, huge, 1}), 0, 0, false}, {changes([4]int{huge, huge, huge, huge}, [4]int{0, 1, 0, 1}), 3, 3, false}, {changes([4]int{1, huge, 1, huge}), 0, 0, false}, {changes([4]int{0, huge, 0, huge}), 0, 0, false}, {changes([4]int{0, huge, 0, huge}), huge, huge, false}, {changes([4]int{0, math.MinInt, 0, math.MinInt}, [4]int{1, math.MinInt, 1, math.MinInt}), 1, 1, false},
	} {
		if got := Check(c.l, c.m, c.n); (got == api.OK) != c.ok || !c.ok && got != api.ErrScript {
			t.Errorf("P8.1: Check(%v, %d, %d) = %d, want OK: %v", c.l, c.m, c.n, got, c.ok)
		}
		compareCheck(t, c.l, c.m, c.n)
	}
}

// TestAllChecks compares Check with the definition for all lists of at most two changes with small fields.
func TestAllChecks(t *testing.T) {
	var small []api.Change
	for i := range 256 {
		small = append(small, changes([4]int{i/64 - 1, i/16%4 - 1, i/4%4 - 1, i%4 - 1})...)
	}
	counts := map[api.Errno]int{}
	for m := range 5 {
		for n := range 5 {
			for _, first := range small {
				counts[compareCheck(t, []api.Change{first}, m, n)]++
				for _, second := range small {
					counts[compareCheck(t, []api.Change{first, second}, m, n)]++
				}
			}
		}
	}
	if counts[api.OK] < 50 || counts[api.ErrScript] < 1000000 {
		t.Errorf("P8.1: %d lists are scripts, %d are not", counts[api.OK], counts[api.ErrScript])
	}
}

// TestNearScripts compares Check with the definition for all short scripts, and for all lists that differ from one in a number or a number of lines.
func TestNearScripts(t *testing.T) {
	testkit.EachScript(4, func(l []api.Change, m, n int) {
		if compareCheck(t, l, m, n) != api.OK {
			t.Fatalf("P8.1: %v is no script for %d and %d lines", l, m, n)
		}
		for _, by := range []int{-4096, -2, -1, 1, 2, 4096, 1 << 32, math.MaxInt - 4} {
			compareCheck(t, l, m+by, n)
			compareCheck(t, l, m, n+by)
			compareCheck(t, l, m+by, n+by) // a script, if so many lines are possible
			for i := range l {
				near := slices.Clone(l)
				for _, field := range []*int{&near[i].Old, &near[i].OldLen, &near[i].New, &near[i].NewLen} {
					*field += by
					compareCheck(t, near, m, n)
					*field -= by
				}
			}
		}
	})
}

// TestSize checks results that are written out.
func TestSize(t *testing.T) {
	const most = api.MaxLines
	for _, c := range []struct {
		l              []api.Change
		removed, added int
	}{
		{nil, 0, 0}, {changes(), 0, 0}, {changes([4]int{0, 0, 0, 0}), 0, 0}, {changes([4]int{7, 1, 8, 0}), 1, 0}, {changes([4]int{7, 0, 8, 1}), 0, 1}, {changes([4]int{0, 2, 0, 3}, [4]int{5, 4, 9, 5}), 6, 8}, {changes([4]int{5, 2, 5, 3}, [4]int{0, 2, 0, 3}, [4]int{0, 2, 0, 3}), 6, 9},
		{changes([4]int{0, -1, 0, 3}), 0, 3}, {changes([4]int{0, 3, 0, -1}), 3, 0}, {changes([4]int{-5, 1, -6, 2}), 1, 2}, {changes([4]int{0, -2, 0, -3}, [4]int{0, 5, 0, 6}), 5, 6}, {changes([4]int{math.MaxInt, 1, math.MinInt, 2}), 1, 2},
		{changes([4]int{0, most, 0, most}), most, most}, {changes([4]int{0, most + 1, 0, most}), 0, most}, {changes([4]int{0, most, 0, most + 1}), most, 0}, {changes([4]int{0, most, 0, most}, [4]int{0, most, 0, 1}), 2 * most, most + 1}, {changes([4]int{0, math.MaxInt, 0, 1}, [4]int{0, math.MaxInt, 0, math.MinInt}, [4]int{0, 2, 0, math.MaxInt}), 2, 1}, {changes([4]int{0, math.MinInt, 0, 1 << 32}, [4]int{0, 1 << 40, 0, 4}), 0, 4},
		{slices.Repeat(changes([4]int{0, most, 0, 3}), 1<<21), most << 21, 3 << 21},
	} {
		if removed, added := Size(c.l); removed != c.removed || added != c.added {
			t.Errorf("P8.1: Size(%.200v) = %d, %d, want %d, %d", c.l[:min(len(c.l), 3)], removed, added, c.removed, c.added)
		}
	}
}

// TestPairs checks results that are written out, of Pairs and of FromPairs.
func TestPairs(t *testing.T) {
	for _, c := range []struct {
		l    []api.Change
		m, n int
		p    []api.Span
	}{
		{nil, 0, 0, nil}, {nil, 2, 2, spans([2]int{0, 0}, [2]int{1, 1})}, {changes([4]int{0, 2, 0, 3}), 2, 3, nil}, {changes([4]int{0, 1, 0, 0}), 1, 0, nil}, {changes([4]int{0, 0, 0, 1}), 0, 1, nil}, {changes([4]int{1, 1, 1, 0}), 3, 2, spans([2]int{0, 0}, [2]int{2, 1})}, {changes([4]int{1, 0, 1, 1}), 2, 3, spans([2]int{0, 0}, [2]int{1, 2})},
		{changes([4]int{0, 1, 0, 0}, [4]int{2, 0, 1, 1}), 2, 2, spans([2]int{1, 0})}, {changes([4]int{0, 0, 0, 2}, [4]int{2, 1, 4, 1}), 5, 7, spans([2]int{0, 2}, [2]int{1, 3}, [2]int{3, 5}, [2]int{4, 6})}, {changes([4]int{1, 2, 1, 1}, [4]int{4, 1, 3, 2}), 5, 5, spans([2]int{0, 0}, [2]int{3, 2})}, {changes([4]int{2, 1, 2, 1}), 3, 3, spans([2]int{0, 0}, [2]int{1, 1})},
	} {
		if p, e := Pairs(c.l, c.m, c.n); e != api.OK || !slices.Equal(p, c.p) {
			t.Errorf("P8.2: Pairs(%v, %d, %d) = %v, %d, want %v", c.l, c.m, c.n, p, e, c.p)
		}
		if l, e := FromPairs(c.p, c.m, c.n); e != api.OK || !slices.Equal(l, c.l) {
			t.Errorf("P8.2: FromPairs(%v, %d, %d) = %v, %d, want %v", c.p, c.m, c.n, l, e, c.l)
		}
	}
}

// TestAllPairs compares Pairs with the definition for all short scripts, and checks that a script is determined by its pairs.
func TestAllPairs(t *testing.T) {
	testkit.EachScript(6, func(l []api.Change, m, n int) {
		want := partnersOf(l, m, n)
		if p, e := Pairs(l, m, n); e != api.OK || !slices.Equal(p, want) {
			t.Fatalf("P8.2: Pairs(%v, %d, %d) = %v, %d, want %v", l, m, n, p, e, want)
		}
		if got, e := FromPairs(want, m, n); e != api.OK || !slices.Equal(got, l) {
			t.Fatalf("P8.2, P8.5: FromPairs(%v, %d, %d) = %v, %d, want %v", want, m, n, got, e, l)
		}
	})
}

// rangeError is the definition of the error of FromPairs for lengths that are possible.
func rangeError(p []api.Span, m, n int) api.Errno {
	for i, s := range p {
		if s.From < 0 || s.From >= m || s.To < 0 || s.To >= n || i > 0 && (s.From <= p[i-1].From || s.To <= p[i-1].To) {
			return api.ErrRange
		}
	}
	return api.OK
}

// TestAllPairLists compares FromPairs with its definition for all lists of at most three small spans.
func TestAllPairLists(t *testing.T) {
	testkit.Texts("0123456789abcdefghijklmno", 3, func(text string) {
		var p []api.Span
		for _, b := range []byte(text) {
			i := slices.Index([]byte("0123456789abcdefghijklmno"), b)
			p = append(p, api.Span{From: i/5 - 1, To: i%5 - 1})
		}
		for m := range 4 {
			for n := range 4 {
				want := rangeError(p, m, n)
				l, e := FromPairs(p, m, n)
				if e != want || e != api.OK && len(l) > 0 {
					t.Fatalf("P8.2: FromPairs(%v, %d, %d) = %v, %d, want the error %d", p, m, n, l, e, want)
				}
				if e == api.OK && (!valid(l, m, n) || !slices.Equal(partnersOf(l, m, n), p)) {
					t.Fatalf("P8.2: FromPairs(%v, %d, %d) = %v", p, m, n, l)
				}
			}
		}
	})
}

// TestFromPairsErrors checks the order of the errors, and numbers that are far out of range.
func TestFromPairsErrors(t *testing.T) {
	const most = api.MaxLines
	lists := [][]api.Span{nil, spans([2]int{0, 0}), spans([2]int{-1, 0}), spans([2]int{1, 1}, [2]int{0, 0}), spans([2]int{0, most}), spans([2]int{most, 0})}
	for _, m := range extremes {
		for _, n := range extremes {
			for _, p := range lists {
				want := api.ErrScript
				if m >= 0 && m <= most && n >= 0 && n <= most {
					want = rangeError(p, m, n)
				}
				if l, e := FromPairs(p, m, n); e != want || e != api.OK && len(l) > 0 {
					t.Errorf("P8.2: FromPairs(%v, %d, %d) = %v, %d, want the error %d", p, m, n, l, e, want)
				}
			}
			for _, s := range spans([2]int{m, n}, [2]int{m, 1}, [2]int{1, n}) {
				for _, p := range [][]api.Span{{s}, {{}, s}, {s, {From: 2, To: 2}}} {
					want := rangeError(p, 3, 3)
					if l, e := FromPairs(p, 3, 3); e != want || e != api.OK && len(l) > 0 {
						t.Errorf("P8.2: FromPairs(%v, 3, 3) = %v, %d, want the error %d", p, l, e, want)
					}
				}
			}
		}
	}
}

// TestLongestTexts checks scripts for as many lines as possible, of one change and of as many as possible.
func TestLongestTexts(t *testing.T) {
	const most = api.MaxLines
	var removals, swaps []api.Change
	var odd, even []api.Span
	for i := range most / 2 {
		removals = append(removals, changes([4]int{2 * i, 1, i, 0})...)
		odd = append(odd, spans([2]int{2*i + 1, i})...)
		swaps = append(swaps, changes([4]int{2*i + 1, 1, 2*i + 1, 1})...)
		even = append(even, spans([2]int{2 * i, 2 * i})...)
	}
	for _, c := range []struct {
		l    []api.Change
		m, n int
		p    []api.Span
	}{{removals, most, most / 2, odd}, {swaps, most, most, even}, {changes([4]int{0, most, 0, most}), most, most, nil}, {changes([4]int{0, most, 0, 0}), most, 0, nil}, {changes([4]int{1, most - 1, 1, 0}), most, 1, spans([2]int{0, 0})}, {changes([4]int{0, 0, 0, most - 1}), 1, most, spans([2]int{0, most - 1})}} {
		if compareCheck(t, c.l, c.m, c.n) != api.OK {
			t.Fatalf("P8.1: no script for %d and %d lines", c.m, c.n)
		}
		if p, e := Pairs(c.l, c.m, c.n); e != api.OK || !slices.Equal(p, c.p) {
			t.Errorf("P8.2: Pairs for %d and %d lines: %d pairs, error %d", c.m, c.n, len(p), e)
		}
		if l, e := FromPairs(c.p, c.m, c.n); e != api.OK || !slices.Equal(l, c.l) {
			t.Errorf("P8.2: FromPairs for %d and %d lines: %d changes, error %d", c.m, c.n, len(l), e)
		}
		compareCheck(t, c.l, c.m+1, c.n+1)
		compareCheck(t, append(slices.Clone(c.l), c.l...), c.m, c.n)
	}
	kept, e := Compose(removals, Invert(removals), most, most/2, most)
	if p, f := Pairs(kept, most, most); e != api.OK || f != api.OK || len(p) != most/2 || p[0] != (api.Span{From: 1, To: 1}) || p[most/2-1] != (api.Span{From: most - 1, To: most - 1}) {
		t.Errorf("P8.3: Compose for %d lines: %d pairs, errors %d, %d", most, len(p), e, f)
	}
	none, e := Compose(Invert(removals), swaps, most/2, most, most)
	if e != api.OK || !slices.Equal(none, changes([4]int{0, most / 2, 0, most})) {
		t.Errorf("P8.3: Compose without pairs: %d changes, error %d", len(none), e)
	}
}
