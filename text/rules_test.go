package text

import (
	"slices"
	"strings"
	"testing"

	"mergelens/api"
	"mergelens/testkit"
)

// hostile lists blobs that are odd, long, or not UTF-8, beside ordinary ones.
func hostile() []string {
	list := []string{
		"", "a", "a\n", "a\nb", "\n", "\n\n", "\r\n", "\x00", "\x00\n", "\xff\xfe", "\xc3\n\xa9", "é\n",
		strings.Repeat("\n", api.MaxLines), strings.Repeat("\n", api.MaxLines+1), strings.Repeat("\n", 1<<22),
		strings.Repeat("x", api.MaxBlob), strings.Repeat("x", api.MaxBlob+1), strings.Repeat("\xff\n", 1<<22), strings.Repeat("\x00", 1<<24),
	}
	for b := range 256 {
		list = append(list, string([]byte{byte(b)}), string([]byte{'\n', byte(b)}))
	}
	return list
}

// hostileLists lists lists of lines and others: of each blob alone, in front of another and many times.
func hostileLists() [][]string {
	list := [][]string{nil, {}, make([]string, 1<<20), hostile()}
	for _, s := range hostile() {
		list = append(list, []string{s}, []string{s, "x"}, []string{"x\n", s})
		if len(s) < 3 {
			list = append(list, slices.Repeat([]string{s}, 5000))
		}
	}
	return list
}

// TestNoPanic checks R1 and R2: every call returns, and with an error all other results are zero.
func TestNoPanic(t *testing.T) {
	for _, s := range hostile() {
		Bare(s)
		Ended(s)
		e := Check(s)
		if lines, f := Split(s); f != e || e != api.OK && len(lines) != 0 {
			t.Errorf("R2: Split(%.20q): %d lines, error %d, Check is %d", s, len(lines), f, e)
		}
	}
	for _, list := range hostileLists() {
		if blob, e := Join(list); e != api.OK && blob != "" {
			t.Errorf("R2: Join of %d strings: %d bytes, error %d", len(list), len(blob), e)
		}
	}
}

// TestArgumentsStay checks that, as R4 says, Join leaves its argument as it is, even where it returns an error.
func TestArgumentsStay(t *testing.T) {
	for _, list := range hostileLists() {
		room := append(slices.Clone(list), "beyond", "beyond")
		before := slices.Clone(room)
		if _, e := Join(room[:len(list)]); !slices.Equal(room, before) {
			t.Errorf("R4: Join changed %d strings, error %d", len(list), e)
		}
	}
}

// TestNewLists checks R4: no two results of Split share memory, not even beyond their lengths.
func TestNewLists(t *testing.T) {
	for _, blob := range []string{"a", "a\nb\nc", "\n\n\n\n\n"} {
		want := linesOf(blob)
		first, _ := Split(blob)
		second, _ := Split(blob)
		testkit.Spoil(first, "changed")
		third, _ := Split(blob)
		for _, lines := range [][]string{second, third} {
			if !slices.Equal(lines, want) {
				t.Errorf("R4: Split(%q) = %q after a change of another result", blob, lines)
			}
		}
	}
}

// TestNotKept checks R4 and R5: a change of the argument of Join after a call changes no result.
func TestNotKept(t *testing.T) {
	lines := []string{"a\n", "b\n", "c"}
	first, _ := Join(lines)
	lines[1] = "changed\n"
	if second, _ := Join(lines); first != "a\nb\nc" || second != "a\nchanged\nc" {
		t.Errorf("R4: Join = %q, then %q", first, second)
	}
}

// answers collects the results of calls of all functions.
func answers() []string {
	var list []string
	for _, s := range hostile()[:16] {
		lines, e := Split(s)
		blob, f := Join([]string{s, "x"})
		list = append(list, Bare(s), blob)
		list = append(list, lines...)
		if Ended(s) {
			list = append(list, "ended")
		}
		list = append(list, strings.Repeat("e", int(e)), strings.Repeat("f", int(f)), strings.Repeat("g", int(Check(s))))
	}
	return list
}

// TestSameResults checks R5: later calls and calls at the same time have the same results.
func TestSameResults(t *testing.T) {
	if !testkit.Same(answers) {
		t.Error("R5: other results of the same calls")
	}
}
