package shortest

import (
	"slices"
	"strings"
	"testing"

	"mergelens/api"
	"mergelens/testkit"
)

// TestBlobs checks results that are written out.
func TestBlobs(t *testing.T) {
	for _, c := range []struct {
		a, b string
		want []api.Change
	}{
		{"", "", nil}, {"a", "a", nil}, {"a\n", "a\n", nil}, {"", "\n", changes([4]int{0, 0, 0, 1})}, {"\n\n", "", changes([4]int{0, 2, 0, 0})}, {"a\nb", "a\nc\n", changes([4]int{1, 1, 1, 1})}, {"1\n2\n3\n", "2\n4\n", changes([4]int{0, 1, 0, 0}, [4]int{2, 1, 1, 1})}, {"a\n\nb\n", "\nb\na\n", changes([4]int{0, 1, 0, 0}, [4]int{3, 0, 2, 1})},
		// The line feed belongs to the line.
		{"a", "a\n", changes([4]int{0, 1, 0, 1})}, {"a\nb", "a\nb\n", changes([4]int{1, 1, 1, 1})}, {"a\n", "a\na", changes([4]int{1, 0, 1, 1})}, {"a", "a\na", changes([4]int{0, 0, 0, 1})},
		// All bytes count.
		{"\x00\n", "\n", changes([4]int{0, 1, 0, 1})}, {"\xff\n\xfe\n", "\xfe\n\xff\n", changes([4]int{0, 1, 0, 0}, [4]int{2, 0, 1, 1})}, {"a\r\n", "a\n", changes([4]int{0, 1, 0, 1})}, {"a\rb\n", "a\n", changes([4]int{0, 1, 0, 1})}, {"\u00e9\n", "e\u0301\n", changes([4]int{0, 1, 0, 1})}, {"A\n", "a\n", changes([4]int{0, 1, 0, 1})}, {"a \n", "a\n", changes([4]int{0, 1, 0, 1})}, {"a\u2028b\n", "b\n", changes([4]int{0, 1, 0, 1})},
	} {
		if got, e := Blobs(c.a, c.b); e != api.OK || !slices.Equal(got, c.want) {
			t.Errorf("P9.2: Blobs(%q, %q) = %v, %d, want %v", c.a, c.b, got, e, c.want)
		}
	}
}

// TestAllBlobs compares Blobs with the definition for all short blobs.
func TestAllBlobs(t *testing.T) {
	ids := map[string]int{}
	number := func(blob string) []int {
		var text []int
		for _, line := range strings.SplitAfter(blob, "\n") {
			if _, seen := ids[line]; !seen {
				ids[line] = 1000 - 7*len(ids)
			}
			if line != "" {
				text = append(text, ids[line])
			}
		}
		return text
	}
	testkit.Texts("ab\n", 5, func(a string) {
		testkit.Texts("ab\n", 5, func(b string) {
			x, y := number(a), number(b)
			want := walk(x, y, distances(x, y))
			if got, e := Blobs(a, b); e != api.OK || !slices.Equal(got, want) {
				t.Fatalf("P9.2: Blobs(%q, %q) = %v, %d, want %v", a, b, got, e, want)
			}
		})
	})
}

// TestBlobLimits checks the errors of both blobs, and the greatest ones without an error.
func TestBlobLimits(t *testing.T) {
	const most = api.MaxLines
	wide := strings.Repeat("x", api.MaxBlob-2) + "\nx"
	long := strings.Repeat("\n", most)
	for _, c := range []struct {
		a, b string
		e    api.Errno
		want []api.Change
	}{
		{wide, wide, api.OK, nil}, {wide, "", api.OK, changes([4]int{0, 2, 0, 0})}, {"x", wide, api.OK, changes([4]int{0, 0, 0, 1})}, {long, long, api.OK, nil}, {long, "", api.OK, changes([4]int{0, most, 0, 0})}, {"\n", long, api.OK, changes([4]int{1, 0, 1, most - 1})}, {long[1:] + "x", long, api.OK, changes([4]int{most - 1, 1, most - 1, 1})},
		{wide + "x", "", api.ErrLimit, nil}, {"", wide + "x", api.ErrLimit, nil}, {wide + "x", wide + "x", api.ErrLimit, nil}, {wide, wide + "x", api.ErrLimit, nil}, {wide + "\n", wide, api.ErrLimit, nil}, {long + "x", "", api.ErrLimit, nil}, {"", long + "x", api.ErrLimit, nil}, {long + "\n", long + "\n", api.ErrLimit, nil}, {long + "x", long, api.ErrLimit, nil}, {long, long + "\n", api.ErrLimit, nil}, {long + "x", wide + "x", api.ErrLimit, nil}, {strings.Repeat("x", api.MaxText), "", api.ErrLimit, nil},
	} {
		if got, e := Blobs(c.a, c.b); e != c.e || !slices.Equal(got, c.want) {
			t.Errorf("P9.2: Blobs(%.9q of %d bytes, %.9q of %d bytes) = %v, %d, want %v, %d", c.a, len(c.a), c.b, len(c.b), got, e, c.want, c.e)
		}
	}
}
