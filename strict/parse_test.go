package strict

import (
	"math/rand"
	"strings"
	"testing"

	"mergelens/api"
	"mergelens/testkit"
	"mergelens/unified"
)

const names = "--- a\n+++ b\n"

// TestParse checks patches that are written out.
func TestParse(t *testing.T) {
	for _, x := range []struct {
		s    string
		want api.Patch
	}{
		{names, patchOf()}, {"--- \"a b\"\n+++ \"\\n\\\"\\377\"\n", api.Patch{OldName: "a b", NewName: "\n\"\xff"}}, {"--- ---\n+++ +++\n", api.Patch{OldName: "---", NewName: "+++"}},
		{names + "@@ -1 +0,0 @@\n-x\n", patchOf(hunkOf(0, 0, "-x\n"))}, {names + "@@ -0,0 +1 @@\n+x\n", patchOf(hunkOf(0, 0, "+x\n"))}, {names + "@@ -4,0 +5,2 @@\n+x\n+y\n", patchOf(hunkOf(4, 4, "+x\n", "+y\n"))}, {names + "@@ -5,2 +4,0 @@\n-x\n-y\n", patchOf(hunkOf(4, 4, "-x\n", "-y\n"))}, {names + "@@ -10,3 +10,2 @@\n x\n-y\n \n", patchOf(hunkOf(9, 9, " x\n", "-y\n", " \n"))}, {names + "@@ -1 +1 @@\n+x\n-y\n", patchOf(hunkOf(0, 0, "+x\n", "-y\n"))},
		{names + "@@ -1 +0,0 @@\n-x\n" + note, patchOf(hunkOf(0, 0, "-x"))}, {names + "@@ -1 +1 @@\n-x\n" + note + "+y\n" + note, patchOf(hunkOf(0, 0, "-x", "+y"))}, {names + "@@ -1 +1,2 @@\n+y\n x\n" + note, patchOf(hunkOf(0, 0, "+y\n", " x"))}, {names + "@@ -1 +1,2 @@\n-x\n" + note + "+y\n+z\n", patchOf(hunkOf(0, 0, "-x", "+y\n", "+z\n"))},
		{names + "@@ -1 +0,0 @@\n-x\n@@ -2 +0,0 @@\n-y\n", patchOf(hunkOf(0, 0, "-x\n"), hunkOf(1, 0, "-y\n"))}, {names + "@@ -1 +0,0 @@\n-x\n" + note + "@@ -2,0 +2 @@\n+y\n", patchOf(hunkOf(0, 0, "-x"), hunkOf(2, 1, "+y\n"))},
		{names + "@@ -1,3 +1,2 @@\n--- a\n+++ b\n-@@ -1 +1 @@\n-\\ No newline at end of file\n+\x00\r\xff\n", patchOf(hunkOf(0, 0, "--- a\n", "+++ b\n", "-@@ -1 +1 @@\n", "-\\ No newline at end of file\n", "+\x00\r\xff\n"))}, {names + "@@ -1 +1 @@\n--\n+ \n", patchOf(hunkOf(0, 0, "--\n", "+ \n"))},
	} {
		if p, e := Parse(x.s); e != api.OK || !testkit.SamePatch(p, x.want) {
			t.Errorf("P13.1: Parse(%q) = %v, %d, want %v", x.s, p, e, x.want)
		}
		compareParse(t, x.s)
	}
}

// TestMalformed checks texts as which no valid patch is written.
func TestMalformed(t *testing.T) {
	const h = names + "@@ -1 +1 @@\n-x\n+y\n"
	for _, s := range []string{
		// Line feeds and lines that are no part of a patch.
		"", "\n", "a", "a\n", "-", "--- a", "--- a\n+++ b", names + "\n", "\n" + names, h[:len(h)-1], h + "\n", h + "x", h + "x\n", h + "\\", h + "\x00\n", h + "\xff\n", names + "@@ -1 +1 @@\n-x\n\n+y\n", strings.ReplaceAll(h, "\n", "\r\n"), "diff a b\n" + h, "\ufeff" + h, h + h,
		// Names.
		"--- a\n", "+++ b\n", "+++ b\n--- a\n", "--- a\n--- b\n", "+++ a\n+++ b\n", names + "--- a\n", names + "+++ b\n", names + names, "--- a\n\n+++ b\n", "---a\n+++ b\n", "---  a\n+++ b\n", "--- a \n+++ b\n", "--- a b\n+++ b\n", "--- a\n+++ b c\n", "--- a\t1970\n+++ b\n", "---\n+++ b\n", "--- \n+++ b\n", "--- a\n+++ \n", "--- a\n+++\n", "--- \"\"\n+++ b\n", "--- a\n+++ \"\"\n", "--- \"a\"\n+++ b\n", "--- \"a b\n+++ b\n", "--- \"a b\"c\n+++ b\n", "--- a\\n\n+++ b\n", "--- \"\\x20\"\n+++ b\n", "--- \"\\040\"\n+++ b\n", "--- \"a\nb\"\n+++ b\n", "--- \xff\n+++ b\n", "-- a\n+++ b\n", "---- a\n+++ b\n", "-++ a\n+++ b\n", "--- a\n++- b\n", "--- a\n@@ -1 +0,0 @@\n+++ b\n-x\n", "@@ -1 +0,0 @@\n--- a\n+++ b\n-x\n", "--- \"\"\n--- a\n+++ b\n",
		// Headers.
		names + "-x\n", names + " x\n", names + "+x\n", names + "@@ -1 +0,0 @@\n", names + "@@ -0,0 +0,0 @@\n", names + "@@ -1 +1 @@\n x\n", names + "@@\n-x\n", names + "@\n-x\n", names + "@@ -\n-x\n", names + "@@ -1\n-x\n", names + "@@ -1 \n-x\n", names + "@@ -1 +\n-x\n", names + "@@ -1 +0,0\n-x\n", names + "@@ -1 +0,0 \n-x\n", names + "@@ -1 +0,0 @\n-x\n", names + "@@ -1 +0,0 @@ \n-x\n", names + "@@ -1 +0,0 @@ f()\n-x\n", names + "@@ -1 +0,0 @@@\n-x\n", names + "@@@ -1 +0,0 @@\n-x\n", names + "@@  -1 +0,0 @@\n-x\n", names + "@@ -1  +0,0 @@\n-x\n", names + "@@ +1 -0,0 @@\n-x\n", names + "@@ 1 0,0 @@\n-x\n", names + "@@ -1,+0,0 @@\n-x\n", names + "@@ -a +0,0 @@\n-x\n", names + "@@-1 +0,0 @@\n-x\n", names + "@@ -1 +0,0@@\n-x\n", names + "@@ -1+0,0 @@\n-x\n",
		// Ranges.
		names + "@@ -1,1 +0,0 @@\n-x\n", names + "@@ -01 +0,0 @@\n-x\n", names + "@@ -1 +0,00 @@\n-x\n", names + "@@ -1 +0 @@\n-x\n", names + "@@ -0 +0,0 @@\n-x\n", names + "@@ -1,0 +0,0 @@\n-x\n", names + "@@ -0,1 +0,0 @@\n-x\n", names + "@@ -1,2 +0,0 @@\n-x\n", names + "@@ -1 +1 @@\n-x\n", names + "@@ -1 +0,0 @@\n-x\n-y\n", names + "@@ -1 +0,0 @@\n-x\n+y\n", names + "@@ -1 +0,0 @@\n-x\n x\n", names + "@@ -1 +0,0 @@\n+x\n", names + "@@ -4294967297 +0,0 @@\n-x\n", names + "@@ -18446744073709551617 +0,0 @@\n-x\n", names + "@@ -1 +18446744073709551616,0 @@\n-x\n", names + "@@ -1, +0,0 @@\n-x\n",
		// Positions.
		names + "@@ -2 +0,0 @@\n-x\n", names + "@@ -1 +1,0 @@\n-x\n", names + "@@ -2 +2,0 @@\n-x\n", names + "@@ -1 +0,0 @@\n-x\n@@ -2 +1 @@\n-y\n+z\n@@ -3 +3 @@\n-v\n+w\n", names + "@@ -1 +0,0 @@\n-x\n@@ -1 +0,0 @@\n-x\n", names + "@@ -5 +4,0 @@\n-x\n@@ -1 +0,0 @@\n-x\n", names + "@@ -4097 +4096,0 @@\n-x\n", names + "@@ -4096,0 +4097 @@\n+x\n",
		// Notes.
		names + note, names[:6] + note + names[6:], note + names, names + "@@ -1 +0,0 @@\n" + note + "-x\n", h[:strings.Index(h, "+y")] + note + "\n+y\n", names + "@@ -1 +0,0 @@\n-x\n" + note + note, names + "@@ -1 +0,0 @@\n-x\n" + note[:len(note)-1], names + "@@ -1 +0,0 @@\n-x\n\\\n", names + "@@ -1 +0,0 @@\n-x\n\\ \n", names + "@@ -1 +0,0 @@\n-x\n\\ No newline\n", names + "@@ -1 +0,0 @@\n-x\n" + strings.ToLower(note), names + "@@ -1 +0,0 @@\n-x\n\\" + note, names + "@@ -1 +0,0 @@\n-x\n " + note, names + "@@ -1 +0,0 @@\n-\n" + note, names + "@@ -1,2 +0,0 @@\n-x\n" + note + "-y\n", names + "@@ -0,0 +1,2 @@\n+x\n" + note + "+y\n", names + "@@ -1 +1,2 @@\n x\n" + note + "+y\n", names + "@@ -1 +0,0 @@\n-x\n" + note + "@@ -2 +0,0 @@\n-x\n",
	} {
		checkForm(t, s)
		compareParse(t, s)
	}
}

// TestAllLists compares Parse with the written forms of all small patches, for all lists of up to four lines after the names.
func TestAllLists(t *testing.T) {
	forms := map[string]api.Patch{}
	add := func(hunks ...api.PatchHunk) {
		if form, e := unified.Format(patchOf(hunks...)); e == api.OK {
			forms[form] = patchOf(hunks...)
		}
	}
	add()
	testkit.EachList([]string{" a\n", "-a\n", "+a\n", "-\n", " a", "-a", "+a"}, 3, func(lines []string) {
		for old := range 4 {
			x := hunkOf(old, old, lines...)
			add(x)
			for _, line := range []string{"-a\n", "+a\n", "-\n"} {
				if len(lines) == 1 {
					for to := range 25 {
						add(x, hunkOf(to/5, to%5, line))
					}
				}
			}
		}
	})
	lines := []string{" a\n", "-a\n", "+a\n", note, "-\n", "\n"}
	for _, old := range []string{"1", "0,0", "1,2", "1,0", "2"} {
		for _, now := range []string{"1", "0,0", "1,2", "1,0", "2"} {
			lines = append(lines, "@@ -"+old+" +"+now+" @@\n")
		}
	}
	valid := 0
	testkit.EachList(lines, 4, func(list []string) {
		s := names + strings.Join(list, "")
		want, ok := forms[s]
		p, e := Parse(s)
		if ok != (e == api.OK) || !ok && e != api.ErrForm || !testkit.SamePatch(p, want) {
			t.Fatalf("P13.1: Parse(%q) = %v, %d, want %v, %v", s, p, e, want, ok)
		}
		if ok {
			valid++
		}
	})
	if valid < 40 {
		t.Errorf("only %d lists of lines are patches", valid)
	}
}

// examples lists written forms that have all parts of a patch.
var examples = []string{
	names,
	names + "@@ -1,2 +1,2 @@\n a\n-b\n" + note + "+c\n",
	"--- \"a \\\"\\001\"\n+++ b/c\n@@ -9,0 +10 @@\n+\n@@ -12 +12,0 @@\n-x\n" + note + "@@ -12,0 +13,2 @@\n+--- a\n+y\n" + note,
	names + "@@ -2,3 +2,2 @@\n-a\n \n-c\n+d\n@@ -4095,2 +4094 @@\n-a\n b\n" + note,
}

// TestSmallMistakes compares Parse with the other parser for texts that differ a little from a written form.
func TestSmallMistakes(t *testing.T) {
	for _, s := range examples {
		if compareParse(t, s) != api.OK {
			t.Fatalf("P13.1: %q is not a patch", s)
		}
		for i := range s {
			compareParse(t, s[:i])
			compareParse(t, s[i:])
			compareParse(t, s[:i]+s[i+1:])
			for b := range 256 {
				compareParse(t, s[:i]+string([]byte{byte(b)})+s[i+1:])
				compareParse(t, s[:i]+string([]byte{byte(b)})+s[i:])
			}
			for k := range s[i:] {
				compareParse(t, s[:i]+s[i+k:])
				compareParse(t, s[:i+k]+s[i:])
			}
		}
	}
}

// mistaken returns a text with a small change in one of its lines, or of their order.
func mistaken(r *rand.Rand, s string) string {
	lines := strings.SplitAfter(s, "\n")
	i := r.Intn(len(lines))
	switch r.Intn(5) {
	case 0:
		lines[i] = ""
	case 1:
		lines[i] += lines[r.Intn(len(lines))]
	case 2:
		k := r.Intn(len(lines))
		lines[i], lines[k] = lines[k], lines[i]
	case 3:
		lines[i] += note
	case 4:
		if k := strings.IndexAny(lines[i], "0123456789 -+"); k >= 0 {
			lines[i] = lines[i][:k] + "0123456789 -+"[r.Intn(13):][:1] + lines[i][k+1:]
		}
	}
	return strings.Join(lines, "")
}

// TestMixedPatches checks longer patches, and compares Parse with the other parser for such patches with small mistakes.
func TestMixedPatches(t *testing.T) {
	r := rand.New(rand.NewSource(13))
	valid := 0
	for range 20000 {
		form := checkPatch(t, testkit.MixedPatch(r.Intn))
		compareParse(t, form)
		if compareParse(t, mistaken(r, form)) == api.OK {
			valid++
		}
		compareParse(t, mistaken(r, mistaken(r, form)))
	}
	if valid < 500 || valid > 15000 {
		t.Errorf("%d of the changed texts are patches", valid)
	}
}

// TestWords compares Parse with the other parser for all short names, and for words that denote no name.
func TestWords(t *testing.T) {
	testkit.Texts("\"\\0137na \n\xff", 5, func(s string) {
		compareParse(t, "--- "+s+"\n+++ b\n")
		if len(s) < 5 {
			compareParse(t, "--- a\n+++ "+s+"\n")
			compareParse(t, "--- \""+s+"\"\n+++ b\n")
		}
	})
	testkit.Texts(" -+\\@\n\"a\x00\xff", 3, func(s string) {
		if s != "" {
			checkPatch(t, api.Patch{OldName: s, NewName: "b"})
			checkPatch(t, api.Patch{OldName: "a", NewName: s})
		}
	})
}

// TestBytes checks that a line of a hunk may have all bytes, and that a line begins with one of five.
func TestBytes(t *testing.T) {
	for b := range 256 {
		text := string([]byte{byte(b)})
		if b != '\n' {
			checkPatch(t, patchOf(hunkOf(0, 0, "-"+text+"\n", "+a"+text)))
		}
		compareParse(t, names+"@@ -1 +0,0 @@\n-x\n"+text+"x\n")
		compareParse(t, text+names[1:])
		if e := compareParse(t, names+"@@ -1,2 +1 @@\n-x\n"+text+"x\n"); (e == api.OK) != (b == ' ') {
			t.Errorf("P13.1: a line that begins with %q has the error %d", text, e)
		}
	}
}
