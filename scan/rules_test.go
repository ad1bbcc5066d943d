package scan

import (
	"math"
	"slices"
	"strings"
	"testing"

	"mergelens/testkit"
)

// hostile lists texts that are malformed, long, or not UTF-8, beside ordinary ones.
func hostile() []string {
	list := []string{
		"", " ", "\"", "\"\\", "\"\\1", "\"\\12", "\\", "0", "00", "1,", ",", "1,1", "5,2 x", "2147483648", "log \"a b\" 7", "a \"b c\"", "\x00", "\xff\xfe", "\xc3", "é",
		strings.Repeat("9", 1<<16), strings.Repeat("\"", 1<<16), strings.Repeat("\\", 1<<16), "\"" + strings.Repeat("\\\\", 1<<16), strings.Repeat("a ", 1<<16), "\"" + strings.Repeat("\\377", 1<<16) + "\"",
	}
	for b := range 256 {
		list = append(list, string([]byte{byte(b)}), string([]byte{'"', '\\', byte(b)}))
	}
	return list
}

// extremes lists offsets and counts in and far out of range.
var extremes = []int{math.MinInt, math.MinInt + 1, math.MinInt32, -2, -1, 0, 1, 2, 3, 1 << 15, math.MaxInt32 - 1, math.MaxInt32, math.MaxInt32 + 1, math.MaxUint32, math.MaxInt - 1, math.MaxInt}

// TestNoPanic checks R1, R2 and R3: every call returns, and with the result false all others are zero.
func TestNoPanic(t *testing.T) {
	for _, a := range extremes {
		Format(a)
		for _, b := range extremes {
			FormatRange(a, b)
		}
	}
	for _, s := range hostile() {
		Quote(s)
		if words, ok := Words(s); !ok && len(words) != 0 {
			t.Errorf("R2: Words(%.20q) = %q, false", s, words)
		}
		for _, at := range append([]int{len(s) - 1, len(s), len(s) + 1}, extremes...) {
			outside := at < 0 || at > len(s)
			if n, end, ok := Number(s, at); !ok && (n != 0 || end != 0) || ok && outside {
				t.Errorf("R2: Number(%.20q, %d) = %d, %d, %v", s, at, n, end, ok)
			}
			if start, count, end, ok := Range(s, at); !ok && (start != 0 || count != 0 || end != 0) || ok && outside {
				t.Errorf("R2: Range(%.20q, %d) = %d, %d, %d, %v", s, at, start, count, end, ok)
			}
			if word, end, ok := Unquote(s, at); !ok && (word != "" || end != 0) || ok && outside {
				t.Errorf("R2: Unquote(%.20q, %d) = %.20q, %d, %v", s, at, word, end, ok)
			}
		}
	}
}

// TestNewLists checks R4: no two results of Words share memory, not even beyond their lengths.
func TestNewLists(t *testing.T) {
	text := "a \"b c\" d"
	first, _ := Words(text)
	second, _ := Words(text)
	testkit.Spoil(first, "changed")
	third, _ := Words(text)
	for _, words := range [][]string{second, third} {
		if !slices.Equal(words, []string{"a", "b c", "d"}) {
			t.Errorf("R4: Words(%q) = %q after a change of another result", text, words)
		}
	}
}

// answers collects the results of calls of all functions.
func answers() []string {
	var list []string
	for _, s := range hostile()[:20] {
		word, end, _ := Unquote(s, 0)
		words, _ := Words(s)
		start, count, after, _ := Range(s, 0)
		n, _, _ := Number(s, 0)
		list = append(list, Quote(s), word, Format(end), FormatRange(start, count), Format(after), Format(n))
		list = append(list, words...)
	}
	return list
}

// TestSameResults checks R5: later calls and calls at the same time have the same results.
func TestSameResults(t *testing.T) {
	if !testkit.Same(answers) {
		t.Error("R5: other results of the same calls")
	}
}
