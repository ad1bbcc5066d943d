package hunk

import (
	"math"
	"math/rand"
	"slices"
	"testing"

	"mergelens/api"
	"mergelens/testkit"
)

// extremes lists integers in and far out of range.
var extremes = []int{math.MinInt, -1 << 32, -1, 0, 1, 2, 3, api.MaxLines, api.MaxLines + 1, api.MaxContext, api.MaxContext + 1, 1 << 32, math.MaxInt - 1, math.MaxInt}

// olds returns hunks with the given From and To of Old, whose other fields are of no use.
func olds(pairs ...[2]int) []api.Hunk {
	var h []api.Hunk
	for _, s := range testkit.Spans(pairs...) {
		h = append(h, api.Hunk{First: 7, Last: -7, Old: s, New: api.Span{From: math.MinInt, To: math.MaxInt}})
	}
	return h
}

// compareCover compares Cover with the definition.
func compareCover(t *testing.T, h []api.Hunk, m int) {
	t.Helper()
	if got, want := Cover(h, m), covered(h, m); !slices.Equal(got, want) {
		t.Fatalf("P11.2: Cover(%v, %d) = %v, want %v", testkit.Head(h), m, testkit.Head(got), testkit.Head(want))
	}
}

// TestCover checks results that are written out: + for a line in a hunk.
func TestCover(t *testing.T) {
	for _, x := range []struct {
		h    []api.Hunk
		m    int
		want string
	}{
		{nil, 0, ""}, {nil, 3, "---"}, {olds(), 1, "-"}, {olds([2]int{0, 3}), 3, "+++"}, {olds([2]int{0, 1}), 3, "+--"}, {olds([2]int{2, 3}), 3, "--+"}, {olds([2]int{1, 2}, [2]int{4, 6}), 8, "-+--++--"}, {olds([2]int{0, 3}), 0, ""},
		// Parts of a span outside of the text are ignored, and so are spans without lines.
		{olds([2]int{-3, 1}), 3, "+--"}, {olds([2]int{2, 9}), 3, "--+"}, {olds([2]int{-3, 9}), 3, "+++"}, {olds([2]int{-3, 0}), 3, "---"}, {olds([2]int{3, 9}), 3, "---"}, {olds([2]int{-9, -3}), 3, "---"}, {olds([2]int{7, 9}), 3, "---"}, {olds([2]int{1, 1}), 3, "---"}, {olds([2]int{2, 1}), 3, "---"}, {olds([2]int{9, -9}), 3, "---"}, {olds([2]int{2, -9}), 3, "---"}, {olds([2]int{9, 1}), 3, "---"},
		// The spans may be in any order, meet, overlap and contain each other.
		{olds([2]int{4, 6}, [2]int{1, 2}), 8, "-+--++--"}, {olds([2]int{1, 3}, [2]int{3, 5}), 7, "-++++--"}, {olds([2]int{1, 4}, [2]int{3, 5}), 7, "-++++--"}, {olds([2]int{1, 6}, [2]int{2, 4}), 7, "-+++++-"}, {olds([2]int{2, 4}, [2]int{1, 6}), 7, "-+++++-"}, {olds([2]int{2, 6}, [2]int{2, 4}), 7, "--++++-"}, {olds([2]int{2, 4}, [2]int{2, 6}), 7, "--++++-"}, {olds([2]int{2, 4}, [2]int{2, 2}), 7, "--++---"}, {olds([2]int{1, 3}, [2]int{4, 2}), 7, "-++----"}, {olds([2]int{1, 3}, [2]int{1, 3}), 4, "-++-"}, {olds([2]int{0, 1}, [2]int{-5, 2}), 4, "++--"}, {olds([2]int{-5, 3}, [2]int{-6, 1}), 4, "+++-"},
	} {
		var want []bool
		for _, b := range []byte(x.want) {
			want = append(want, b == '+')
		}
		if got := Cover(x.h, x.m); !slices.Equal(got, want) {
			t.Errorf("P11.2: Cover(%v, %d) = %v, want %v", x.h, x.m, got, want)
		}
		compareCover(t, x.h, x.m)
	}
}

// TestCoverLimit checks that there is no result exactly for numbers of lines that no text has.
func TestCoverLimit(t *testing.T) {
	for _, m := range extremes {
		want := m
		if m < 0 || m > api.MaxLines {
			want = 0
		}
		for _, h := range [][]api.Hunk{nil, olds([2]int{0, 1}), olds([2]int{math.MinInt, math.MaxInt})} {
			if got := Cover(h, m); len(got) != want {
				t.Errorf("P11.2: Cover(%v, %d) has %d lines, want %d", h, m, len(got), want)
			}
			compareCover(t, h, m)
		}
	}
}

// TestAllCovers compares Cover with the definition for all lists of at most three small spans.
func TestAllCovers(t *testing.T) {
	const letters = "0123456789abcdefghijklmnopqrstuvwxyz"
	testkit.Texts(letters, 3, func(text string) {
		var pairs [][2]int
		for _, b := range []byte(text) {
			i := slices.Index([]byte(letters), b)
			pairs = append(pairs, [2]int{i/6 - 1, i%6 - 1})
		}
		h := olds(pairs...)
		for m := range 4 {
			compareCover(t, h, m)
		}
	})
}

// TestExtremeCovers checks R1 and R3: Cover returns for any integers, with the result that is defined.
func TestExtremeCovers(t *testing.T) {
	for _, from := range extremes {
		for _, to := range extremes {
			compareCover(t, olds([2]int{from, to}), api.MaxLines)
			for _, otherFrom := range extremes {
				for _, otherTo := range extremes {
					compareCover(t, olds([2]int{from, to}, [2]int{otherFrom, otherTo}), 4)
				}
			}
		}
	}
}

// TestMixedCovers compares Cover with the definition for longer texts and lists.
func TestMixedCovers(t *testing.T) {
	r := rand.New(rand.NewSource(11))
	for range 5000 {
		m := r.Intn(60)
		length := 1 + r.Intn(20)
		var h []api.Hunk
		for range r.Intn(12) {
			from := r.Intn(m+20) - 10
			h = append(h, olds([2]int{from, from + r.Intn(length) - 1})...)
		}
		compareCover(t, h, m)
	}
}

// TestManyHunks checks R1 for lists of far more hunks than a text has lines.
func TestManyHunks(t *testing.T) {
	const most = api.MaxLines
	h := slices.Repeat(olds([2]int{1, most - 1}, [2]int{-1, 1 << 40}, [2]int{most, 0}), 1<<19)
	if got := Cover(h, most); !slices.Equal(got, slices.Repeat([]bool{true}, most)) {
		t.Errorf("P11.2: Cover of %d hunks = %v", len(h), testkit.Head(got))
	}
	for i := range h {
		h[i].Old = api.Span{From: i % most &^ 1, To: i%most | 1}
	}
	if got := Cover(h, most); !slices.Equal(got, slices.Repeat([]bool{true, false}, most/2)) {
		t.Errorf("P11.2: Cover of %d short hunks = %v", len(h), testkit.Head(got))
	}
}
