package unified

import (
	"strings"
	"testing"

	"mergelens/api"
)

// TestFormat checks written forms that are written out.
func TestFormat(t *testing.T) {
	const feed = "\n\\ No newline at end of file\n"
	for _, x := range []struct {
		p    api.Patch
		want string
	}{
		{patchOf(), "--- a\n+++ b\n"}, {patchOf(hunkOf(0, 0, " a\n", "-b", "+c\n")), "--- a\n+++ b\n@@ -1,2 +1,2 @@\n a\n-b" + feed + "+c\n"},
		{patchOf(hunkOf(0, 0, "+a\n")), "--- a\n+++ b\n@@ -0,0 +1 @@\n+a\n"}, {patchOf(hunkOf(0, 0, "-a\n")), "--- a\n+++ b\n@@ -1 +0,0 @@\n-a\n"}, {patchOf(hunkOf(4, 4, "+a\n", "+b\n")), "--- a\n+++ b\n@@ -4,0 +5,2 @@\n+a\n+b\n"}, {patchOf(hunkOf(4, 4, "-a\n", "+b\n")), "--- a\n+++ b\n@@ -5 +5 @@\n-a\n+b\n"}, {patchOf(hunkOf(9, 9, " a\n", "-b\n", " c\n", "+d\n", "+e\n")), "--- a\n+++ b\n@@ -10,3 +10,4 @@\n a\n-b\n c\n+d\n+e\n"},
		{patchOf(hunkOf(0, 0, "-a"), hunkOf(1, 0, "+b")), "--- a\n+++ b\n@@ -1 +0,0 @@\n-a" + feed + "@@ -1,0 +1 @@\n+b" + feed}, {patchOf(hunkOf(0, 0, "-a", "+b")), "--- a\n+++ b\n@@ -1 +1 @@\n-a" + feed + "+b" + feed}, {patchOf(hunkOf(0, 0, "-a\n", " b")), "--- a\n+++ b\n@@ -1,2 +1 @@\n-a\n b" + feed}, {patchOf(hunkOf(1, 1, "-\n", "+\n")), "--- a\n+++ b\n@@ -2 +2 @@\n-\n+\n"},
		{patchOf(hunkOf(api.MaxLines-2, api.MaxLines-2, "-a\n", "-b\n")), "--- a\n+++ b\n@@ -4095,2 +4094,0 @@\n-a\n-b\n"},
		{api.Patch{OldName: "a b", NewName: "\"\\\n\t\x01\xff"}, "--- \"a b\"\n+++ \"\\\"\\\\\\n\\t\\001\\377\"\n"}, {api.Patch{OldName: "x/y", NewName: "---"}, "--- x/y\n+++ ---\n"},
		// The bytes of a line are written as they are.
		{patchOf(hunkOf(0, 0, "-\\ No newline at end of file\n", "+@@ -1 +1 @@\r\n", "-\x00\xff\"")), "--- a\n+++ b\n@@ -1,2 +1 @@\n-\\ No newline at end of file\n+@@ -1 +1 @@\r\n-\x00\xff\"" + feed},
	} {
		if s, e := Format(x.p); e != api.OK || s != x.want {
			t.Errorf("P12.1: Format(%v) = %q, %d, want %q", x.p, s, e, x.want)
		}
		compareForm(t, x.p)
	}
}

// TestAllLengths checks the ranges of hunks of many lines.
func TestAllLengths(t *testing.T) {
	for _, at := range []int{0, 1, 8, 9, 10, 98, 99, 999, 3000} {
		for _, length := range []int{0, 1, 2, 9, 10, 11, 99, 100, 101, 999, 1000, 1001} {
			for _, kind := range []string{" ", "-", "+"} {
				lines := strings.SplitAfter(strings.Repeat(kind+"a\n", length), "\n")
				lines[length] = "+b\n"
				if e := compareForm(t, patchOf(hunkOf(at, at, lines...))); e != api.OK {
					t.Errorf("P12.1: Check of a hunk of %d lines at %d = %d", length+1, at, e)
				}
			}
		}
	}
}
