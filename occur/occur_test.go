package occur

import (
	"math"
	"math/rand"
	"slices"
	"strings"
	"testing"

	"mergelens/api"
	"mergelens/testkit"
)

// occurs is the definition of the chapter.
func occurs(needle, s string, i int) bool {
	return len(needle) > 0 && i+len(needle) <= len(s) && s[i:i+len(needle)] == needle
}

// following is the definition of Next for an offset that is in s.
func following(needle, s string, from int) (int, bool) {
	for i := from; i <= len(s); i++ {
		if occurs(needle, s, i) {
			return i, true
		}
	}
	return 0, false
}

// separate is the definition of Positions.
func separate(needle, s string) []int {
	var list []int
	at, ok := following(needle, s, 0)
	for ok {
		list = append(list, at)
		at, ok = following(needle, s, at+len(needle))
	}
	return list
}

// most returns the greatest number of occurrences that do not overlap.
func most(needle, s string) int {
	counts := make([]int, len(s)+1) // of what begins at each offset
	for i := len(s) - 1; i >= 0; i-- {
		counts[i] = counts[i+1]
		if occurs(needle, s, i) {
			counts[i] = max(counts[i], 1+counts[i+len(needle)])
		}
	}
	return counts[0]
}

// halves is the definition of Borders, by trial of all lengths.
func halves(needle string) []int {
	list := make([]int, len(needle))
	for k := 1; k <= len(needle); k++ {
		for length := range k {
			if needle[k-length:k] == needle[:length] {
				list[k-1] = length
			}
		}
	}
	return list
}

// replaced is the definition of Replace without its error.
func replaced(needle, s, by string) string {
	list := separate(needle, s)
	for _, at := range slices.Backward(list) {
		s = s[:at] + by + s[at+len(needle):]
	}
	return s
}

// compare compares all functions with their definitions.
func compare(t *testing.T, needle, s, by string) {
	t.Helper()
	for from := range len(s) + 1 {
		want, some := following(needle, s, from)
		if got, ok := Next(needle, s, from); got != want || ok != some {
			t.Fatalf("P7.1: Next(%q, %q, %d) = %d, %v, want %d, %v", needle, s, from, got, ok, want, some)
		}
	}
	want := separate(needle, s)
	if got := Positions(needle, s); !slices.Equal(got, want) {
		t.Fatalf("P7.2: Positions(%q, %q) = %v, want %v", needle, s, got, want)
	}
	if got := Count(needle, s); got != len(want) {
		t.Fatalf("P7.2: Count(%q, %q) = %d, want %d", needle, s, got, len(want))
	} else if got != most(needle, s) {
		t.Fatalf("P7.5: Count(%q, %q) = %d, but %d do not overlap", needle, s, got, most(needle, s))
	}
	if got, e := Replace(needle, s, by); got != replaced(needle, s, by) || e != api.OK {
		t.Fatalf("P7.4: Replace(%q, %q, %q) = %q, %d, want %q", needle, s, by, got, e, replaced(needle, s, by))
	}
	if got, e := Replace(needle, s, needle); got != s || e != api.OK {
		t.Fatalf("P7.5: Replace(%q, %q) by the needle itself = %q, %d", needle, s, got, e)
	}
}

// TestNext checks results that are written out.
func TestNext(t *testing.T) {
	for _, c := range []struct {
		needle, s string
		want      []int // from each offset; -1 for none
	}{
		{"a", "", []int{-1}}, {"", "", []int{-1}}, {"", "ab", []int{-1, -1, -1}}, {"a", "a", []int{0, -1}}, {"ab", "a", []int{-1, -1}}, {"b", "ab", []int{1, 1, -1}},
		{"aa", "aaaa", []int{0, 1, 2, -1, -1}}, {"ab", "abcab", []int{0, 3, 3, 3, -1, -1}}, {"aab", "aaab", []int{1, 1, -1, -1, -1}}, {"abab", "abaabab", []int{3, 3, 3, 3, -1, -1, -1, -1}}, {"abcd", "abcabcd", []int{3, 3, 3, 3, -1, -1, -1, -1}},
		{"\x00", "\x00\xff\x00", []int{0, 2, 2, -1}}, {"\xff\n", "\xff\xff\n", []int{1, 1, -1, -1}}, {"A", "aA", []int{1, 1, -1}}, {"\xa9", "\xc3\xa9", []int{1, 1, -1}},
	} {
		for from, want := range c.want {
			got, ok := Next(c.needle, c.s, from)
			if ok != (want >= 0) || got != max(want, 0) {
				t.Errorf("P7.1: Next(%q, %q, %d) = %d, %v, want %d", c.needle, c.s, from, got, ok, want)
			}
		}
	}
}

// TestPositions checks results that are written out.
func TestPositions(t *testing.T) {
	for _, c := range []struct {
		needle, s string
		want      []int
	}{
		{"aa", "aaaaa", []int{0, 2}}, {"", "x", nil}, {"", "", nil}, {"a", "", nil}, {"a", "b", nil}, {"aaa", "aa", nil}, {"aa", "aa", []int{0}}, {"a", "aba", []int{0, 2}},
		{"aba", "ababababa", []int{0, 4}}, {"aba", "abaababa", []int{0, 3}}, {"abab", "abaababab", []int{3}}, {"aab", "aaabaab", []int{1, 4}}, {"aaa", "aaaabaaa", []int{0, 5}},
		{"\n", "a\n\nb\n", []int{1, 2, 4}}, {"\n\n", "\n\n\n\n\n", []int{0, 2}}, {"\x00\x00", "\x00\x00\x00\x00", []int{0, 2}}, {"\xff", "\xff\xfe\xff", []int{0, 2}}, {"a b", "a ba b", []int{0, 3}},
	} {
		if got := Positions(c.needle, c.s); !slices.Equal(got, c.want) {
			t.Errorf("P7.2: Positions(%q, %q) = %v, want %v", c.needle, c.s, got, c.want)
		}
		if got := Count(c.needle, c.s); got != len(c.want) {
			t.Errorf("P7.2: Count(%q, %q) = %d, want %d", c.needle, c.s, got, len(c.want))
		}
	}
}

// TestBorders checks results that are written out.
func TestBorders(t *testing.T) {
	for _, c := range []struct {
		needle string
		want   []int
	}{
		{"", nil}, {"a", []int{0}}, {"ab", []int{0, 0}}, {"aa", []int{0, 1}}, {"abab", []int{0, 0, 1, 2}}, {"aaaa", []int{0, 1, 2, 3}}, {"abcabd", []int{0, 0, 0, 1, 2, 0}},
		{"aabaaaba", []int{0, 1, 0, 1, 2, 2, 3, 4}}, {"abaabab", []int{0, 0, 1, 1, 2, 3, 2}}, {"abababb", []int{0, 0, 1, 2, 3, 4, 0}}, {"\x00\xff\x00\x00", []int{0, 0, 1, 1}}, {"\xc3\xa9\xc3\xaa", []int{0, 0, 1, 0}}, {"\n\n", []int{0, 1}},
	} {
		if got := Borders(c.needle); !slices.Equal(got, c.want) {
			t.Errorf("P7.3: Borders(%q) = %v, want %v", c.needle, got, c.want)
		}
	}
}

// TestReplace checks results that are written out.
func TestReplace(t *testing.T) {
	for _, c := range []struct{ needle, s, by, want string }{
		{"", "", "", ""}, {"", "ab", "c", "ab"}, {"a", "", "b", ""}, {"a", "b", "c", "b"}, {"ab", "a", "c", "a"}, {"a", "a", "", ""}, {"a", "aba", "", "b"}, {"a", "aba", "cd", "cdbcd"},
		{"aa", "aaaaa", "b", "bba"}, {"aba", "ababa", "-", "-ba"}, {"ab", "aabb", "", "ab"}, {"a", "aa", "aa", "aaaa"}, {"b", "abc", "b", "abc"}, {"\n", "a\nb\n", "\r\n", "a\r\nb\r\n"}, {"\xff", "a\xffb", "\x00", "a\x00b"}, {"abc", "xabcyabc", "\xfe\xff", "x\xfe\xffy\xfe\xff"},
	} {
		if got, e := Replace(c.needle, c.s, c.by); got != c.want || e != api.OK {
			t.Errorf("P7.4: Replace(%q, %q, %q) = %q, %d, want %q", c.needle, c.s, c.by, got, e, c.want)
		}
	}
}

// TestAllTexts compares all functions with their definitions for all short needles and texts.
func TestAllTexts(t *testing.T) {
	for _, c := range []struct {
		alphabet     string
		needle, text int
	}{{"ab", 4, 8}, {"ab", 7, 5}, {"abc", 3, 5}, {"\x00\xff\n", 2, 4}} {
		testkit.Texts(c.alphabet, c.needle, func(needle string) {
			testkit.Texts(c.alphabet, c.text, func(s string) {
				compare(t, needle, s, c.alphabet[1:])
			})
		})
	}
}

// TestAllBorders compares Borders with its definition for all short strings.
func TestAllBorders(t *testing.T) {
	check := func(needle string) {
		if got, want := Borders(needle), halves(needle); !slices.Equal(got, want) {
			t.Fatalf("P7.3: Borders(%q) = %v, want %v", needle, got, want)
		}
	}
	testkit.Texts("ab", 13, check)
	testkit.Texts("abc", 8, check)
	testkit.Texts("\x00\n\xff\xfe", 5, check)
}

// word returns a string of n bytes of an alphabet that repeats parts of itself.
func word(r *rand.Rand, alphabet string, n int) string {
	var b []byte
	for len(b) < n {
		if from := r.Intn(len(b) + 1); r.Intn(3) > 0 {
			b = append(b, b[from:]...)
		}
		b = append(b, alphabet[r.Intn(len(alphabet))])
	}
	return string(b[:n])
}

// TestMixedTexts compares all functions with their definitions and with another implementation, for longer texts that are made of parts of the needle.
func TestMixedTexts(t *testing.T) {
	r := rand.New(rand.NewSource(7))
	for range 20000 {
		needle := word(r, "aab", r.Intn(20))
		var b strings.Builder
		for b.Len() < 60 && r.Intn(12) > 0 {
			b.WriteString(needle[:r.Intn(len(needle)+1)])
			b.WriteString(word(r, "abc", r.Intn(3)))
		}
		s, by := b.String(), word(r, "abc", r.Intn(5))
		compare(t, needle, s, by)
		if got, want := Borders(needle), halves(needle); !slices.Equal(got, want) {
			t.Fatalf("P7.3: Borders(%q) = %v, want %v", needle, got, want)
		}
		if needle == "" {
			continue
		}
		if got, e := Replace(needle, s, by); e != api.OK || got != strings.ReplaceAll(s, needle, by) {
			t.Fatalf("P7.4: Replace(%q, %q, %q) = %q, %d", needle, s, by, got, e)
		}
		if got := Count(needle, s); got != strings.Count(s, needle) {
			t.Fatalf("P7.2: Count(%q, %q) = %d", needle, s, got)
		}
	}
}

// TestLongTexts checks long texts and needles, of which all parts look alike.
func TestLongTexts(t *testing.T) {
	const n = 1 << 21
	long, half := strings.Repeat("a", 2*n), strings.Repeat("a", n)
	for _, c := range []struct {
		needle, s string
		want      []int
	}{
		{half, long, []int{0, n}}, {half + "b", long, nil}, {half + "b", long + "b", []int{n}}, {"b" + half, long, nil}, {half + "b" + half, long + "b" + long, []int{n}}, {long + "a", long, nil}, {strings.Repeat("ab", n/2) + "b", strings.Repeat("ab", n) + "b", []int{n}},
	} {
		got := Positions(c.needle, c.s)
		at, ok := Next(c.needle, c.s, 0)
		if !slices.Equal(got, c.want) || Count(c.needle, c.s) != len(c.want) {
			t.Errorf("P7.2: Positions of %d bytes in %d = %v, want %v", len(c.needle), len(c.s), got, c.want)
		}
		if ok != (len(c.want) > 0) || ok && at != c.want[0] {
			t.Errorf("P7.1: Next of %d bytes in %d = %d, %v, want the first of %v", len(c.needle), len(c.s), at, ok, c.want)
		}
	}
	for k, border := range Borders(long + "b" + long) {
		if want := k % (2 * n); k < 4*n && border != want || k == 4*n && border != 2*n {
			t.Fatalf("P7.3: the border of %d bytes is %d", k+1, border)
		}
	}
}

// TestGreatestResults checks the limit of Replace's result, for texts around it and for those that are far longer.
func TestGreatestResults(t *testing.T) {
	const most = api.MaxText
	full := strings.Repeat("ab", most/2)
	for _, c := range []struct {
		needle, s, by string
		want          int // the number of bytes; -1 for too many
	}{
		{"c", full, "d", most}, {"", full, "d", most}, {"c", full + "a", "d", -1}, {"", full + "a", "", -1}, {"c", full + "a", "", -1}, {"a", full, "b", most}, {"a", full, "", most / 2}, {"ab", full, "c", most / 2}, {"a", full + "a", "", most / 2}, {"a", full + "ab", "c", -1}, {"ab", full + "ab", "c", most/2 + 1}, {"ab", full + "aab", "ab", -1},
		{"c", full[1:] + "c", "", most - 1}, {"c", full[1:] + "c", "d", most}, {"c", full[1:] + "c", "de", -1}, {"c", full + "c", "", most}, {"c", full + "cc", "d", -1}, {"c", full + "bc", "", -1}, {"ca", full + "ca", "", most}, {"a", full, "cd", -1}, {"a", full[:most/2], "cde", most}, {"a", full[:most/2] + "b", "cde", -1}, {"a", full[:most/2-2] + "bb", "cde", most - 2}, {"a", full[:most/2] + "a", "cd", most*3/4 + 2},
		{"a", "a", full, most}, {"a", "ab", full, -1}, {"a", "a", full + "b", -1}, {"a", "b", full + "b", 1}, {"", "b", full + "b", 1}, {"a", full, full, -1}, {full, full, "", 0}, {full, full + full, "", 0}, {full, full + full + "c", full[:most/2-1], most - 1}, {full, full + full + "c", full[:most/2], -1},
	} {
		got, e := Replace(c.needle, c.s, c.by)
		if c.want < 0 && (e != api.ErrLimit || got != "") || c.want >= 0 && (e != api.OK || len(got) != c.want) {
			t.Errorf("P7.4: Replace(%.9q, %d bytes, %d bytes) = %d bytes, %d, want %d", c.needle, len(c.s), len(c.by), len(got), e, c.want)
		}
		if c.want >= 0 && c.needle != "" && got != strings.ReplaceAll(c.s, c.needle, c.by) {
			t.Errorf("P7.4: Replace(%.9q, %d bytes, %d bytes) = %.20q ..", c.needle, len(c.s), len(c.by), got)
		}
	}
}

// TestFits checks lengths that are as great as integers may be.
func TestFits(t *testing.T) {
	const most = api.MaxText
	for _, c := range []struct {
		length, needle, by, count int
		want                      bool
	}{
		{math.MaxInt, 1, 0, math.MaxInt, true}, {math.MaxInt, 1, 1, math.MaxInt, false}, {math.MaxInt, 1, math.MaxInt, math.MaxInt, false}, {math.MaxInt, 0, math.MaxInt, 0, false}, {math.MaxInt, math.MaxInt, most, 1, true}, {math.MaxInt, math.MaxInt, most + 1, 1, false}, {math.MaxInt, math.MaxInt - 1, most - 1, 1, true}, {math.MaxInt, math.MaxInt - 1, most, 1, false},
		{1 << 32, 1, 1 << 32, 1 << 32, false}, {1 << 33, 2, 1 << 32, 1 << 32, false}, {most, 1, 1, most, true}, {most, 1, 2, most, false}, {most, 1, 2, 0, true}, {0, 0, math.MaxInt, 0, true},
	} {
		if got := fits(c.length, c.needle, c.by, c.count); got != c.want {
			t.Errorf("P7.4: fits(%d, %d, %d, %d) = %v", c.length, c.needle, c.by, c.count, got)
		}
	}
}
