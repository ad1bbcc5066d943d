package strict

import (
	"slices"
	"strings"
	"testing"

	"mergelens/api"
	"mergelens/testkit"
)

// TestLines checks lines that are written out.
func TestLines(t *testing.T) {
	for _, x := range []struct {
		s    string
		want []string
		ok   bool
	}{
		{"", nil, true}, {"\n", []string{""}, true}, {"\n\n", []string{"", ""}, true}, {"a\n", []string{"a"}, true}, {"a\n\nb\n", []string{"a", "", "b"}, true}, {"\na\n", []string{"", "a"}, true}, {"\r\n\x00\xff \n", []string{"\r", "\x00\xff "}, true}, {"a\rb\n", []string{"a\rb"}, true}, {"\u2028\n", []string{"\u2028"}, true},
		{"a", nil, false}, {"\na", nil, false}, {"a\nb", nil, false}, {"a\n\n ", nil, false}, {"a\n\r", nil, false}, {"\x00", nil, false}, {"\u2028", nil, false}, {"\x8a", nil, false},
	} {
		if lines, ok := Lines(x.s); ok != x.ok || !slices.Equal(lines, x.want) {
			t.Errorf("P13.2: Lines(%q) = %q, %v, want %q, %v", x.s, lines, ok, x.want, x.ok)
		}
	}
}

// TestLinesOfAllTexts compares Lines with its definition for all short texts.
func TestLinesOfAllTexts(t *testing.T) {
	testkit.Texts("\na\r\x00\xff", 7, func(s string) {
		var want []string
		line := ""
		for i := range len(s) {
			if s[i] == '\n' {
				want = append(want, line)
				line = ""
			} else {
				line += s[i : i+1]
			}
		}
		ok := line == ""
		if !ok {
			want = nil
		}
		if lines, got := Lines(s); got != ok || !slices.Equal(lines, want) {
			t.Fatalf("P13.2: Lines(%q) = %q, %v, want %q, %v", s, lines, got, want, ok)
		}
	})
}

// TestManyLinesOfText checks that Lines has no limit of its own.
func TestManyLinesOfText(t *testing.T) {
	const many = api.MaxText + 3
	if lines, ok := Lines(strings.Repeat("\n", many)); !ok || len(lines) != many || lines[0] != "" || lines[many-1] != "" {
		t.Errorf("P13.2: Lines of %d empty lines has %d lines, %v", many, len(lines), ok)
	}
	long := strings.Repeat("x", many)
	if lines, ok := Lines(long + "\n"); !ok || len(lines) != 1 || lines[0] != long {
		t.Errorf("P13.2: Lines of a long line has %d lines, %v", len(lines), ok)
	}
	if lines, ok := Lines(strings.Repeat("\n", many) + "x"); ok || len(lines) > 0 {
		t.Errorf("P13.2: Lines of a text without a line feed at its end has %d lines, %v", len(lines), ok)
	}
}
