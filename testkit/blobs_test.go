package testkit

import (
	"math/rand"
	"slices"
	"strings"
	"testing"

	"mergelens/api"
)

// TestMixedBlobs checks that blobs have lines in common, and others, and that some have no line feed at their end.
func TestMixedBlobs(t *testing.T) {
	r := rand.New(rand.NewSource(14))
	equal, similar, unended := 0, 0, 0
	for range 1000 {
		a, b := MixedBlobs(r.Intn)
		if a == b {
			equal++
		}
		if end := min(len(a), len(b), 6); a != b && end == 6 && a[:end] == b[:end] {
			similar++
		}
		for _, blob := range []string{a, b} {
			if blob != "" && !strings.HasSuffix(blob, "\n") {
				unended++
			}
		}
	}
	if equal < 10 || similar < 300 || unended < 500 || unended > 1900 {
		t.Errorf("of 1000 pairs of blobs, %d are equal and %d begin with the same lines, and %d blobs have no line feed at their end", equal, similar, unended)
	}
}

func TestLinesOf(t *testing.T) {
	for blob, want := range map[string][]string{"": nil, "a": {"a"}, "a\n": {"a\n"}, "\n\nb": {"\n", "\n", "b"}, "a\r\nb\n": {"a\r\n", "b\n"}} {
		if got := LinesOf(blob); !slices.Equal(got, want) {
			t.Errorf("LinesOf(%q) = %q, want %q", blob, got, want)
		}
	}
}

func TestIsTooLarge(t *testing.T) {
	const most = api.MaxLines
	long := strings.Repeat("x", api.MaxBlob-1)
	for i, c := range []struct {
		lines []string
		want  bool
	}{
		{nil, false}, {make([]string, most), false}, {make([]string, most+1), true}, {[]string{long, "x"}, false}, {[]string{long, "xx"}, true}, {[]string{long, "x", "x"}, true},
	} {
		if got := IsTooLarge(c.lines); got != c.want {
			t.Errorf("IsTooLarge of list %d = %v", i, got)
		}
	}
}
