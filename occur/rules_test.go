package occur

import (
	"math"
	"slices"
	"strconv"
	"strings"
	"testing"

	"mergelens/api"
	"mergelens/testkit"
)

// hostile lists strings that are empty, odd or large, beside ordinary ones.
func hostile() []string {
	long := strings.Repeat("x", 1<<16)
	return []string{"", "x", "xx", "\x00", "\n", "\n\n", "\xff\xfe", "\xc3", "a\x00b", "\u00e9\u20ac", long, long + "y", "y" + long}
}

// TestNoPanic checks R1 and R2: every call returns, and has no result with an error or with false.
func TestNoPanic(t *testing.T) {
	for _, needle := range hostile() {
		if got := Borders(needle); len(got) != len(needle) {
			t.Errorf("R1: %d borders of %d bytes", len(got), len(needle))
		}
		for _, s := range hostile() {
			count := Count(needle, s)
			if got := Positions(needle, s); len(got) != count {
				t.Errorf("R1: %d positions of %.9q in %.9q, but the count %d", len(got), needle, s, count)
			}
			for _, from := range []int{0, len(s) / 2, len(s)} {
				if at, ok := Next(needle, s, from); !ok && at != 0 || ok && (at < from || count == 0) {
					t.Errorf("R2: Next(%.9q, %.9q, %d) = %d, %v", needle, s, from, at, ok)
				}
			}
			for _, by := range hostile() {
				if got, e := Replace(needle, s, by); e != api.OK && (got != "" || e != api.ErrLimit) || len(got) > api.MaxText {
					t.Errorf("R2: Replace(%.9q, %.9q, %.9q) = %d bytes, %d", needle, s, by, len(got), e)
				}
			}
		}
	}
}

// TestWrongOffsets checks R3: Next has no result from an offset that is not in the text, however far it is away.
func TestWrongOffsets(t *testing.T) {
	for _, needle := range []string{"", "a", "aa", "aaa", "b"} {
		for n := range 5 {
			s := strings.Repeat("a", n)
			for _, from := range []int{math.MinInt, math.MinInt + 1, math.MinInt32, -1 << 32, -n - 1, -n, -2, -1, n + 1, n + 2, 1 << 32, math.MaxInt32, math.MaxInt - 1, math.MaxInt} {
				if from >= 0 && from <= n {
					continue
				}
				if at, ok := Next(needle, s, from); at != 0 || ok {
					t.Errorf("P7.1: Next(%q, %q, %d) = %d, %v, want none", needle, s, from, at, ok)
				}
			}
		}
	}
}

// TestNewLists checks R4: the lists share no memory with later results, not even beyond their lengths.
func TestNewLists(t *testing.T) {
	for _, s := range []string{"a", "ab", "abab", "aaaaaaaaaaa"} {
		for name, f := range map[string]func() []int{"Positions": func() []int { return Positions("a", s) }, "Borders": func() []int { return Borders(s) }} {
			got := f()
			want := slices.Clone(got)
			again := f()
			testkit.Spoil(got, -1)
			if !slices.Equal(again, want) || !slices.Equal(f(), want) {
				t.Errorf("R4: %s of %q is %v, then %v after a change of another result, want %v", name, s, again, f(), want)
			}
		}
	}
}

// answers collects the results of calls of all functions.
func answers() []string {
	var list []string
	add := func(numbers ...int) {
		for _, n := range numbers {
			list = append(list, strconv.Itoa(n))
		}
		list = append(list, "")
	}
	for _, needle := range []string{"", "a", "ab", "aba", "b\n"} {
		add(Borders(needle)...)
		for _, s := range []string{"", "a", "ababa", "aab\nab", "\xffb\nb\n"} {
			add(Positions(needle, s)...)
			add(Count(needle, s))
			for from := range len(s) + 2 {
				at, ok := Next(needle, s, from)
				add(at)
				list = append(list, strconv.FormatBool(ok))
			}
			text, e := Replace(needle, s, s)
			add(int(e))
			list = append(list, text)
		}
	}
	return list
}

// TestSameResults checks R5: later calls and calls at the same time have the same results.
func TestSameResults(t *testing.T) {
	if !testkit.Same(answers) {
		t.Error("R5: other results of the same calls")
	}
}
