package strict

import (
	"slices"
	"strings"
	"testing"

	"mergelens/api"
	"mergelens/scan"
	"mergelens/testkit"
)

// TestLimit checks written forms of as many bytes as a text may have, and of more.
func TestLimit(t *testing.T) {
	for _, p := range []api.Patch{
		patchOf(hunkOf(0, 0, "-a\n")), patchOf(hunkOf(0, 0, "-a")), patchOf(hunkOf(0, 0, "-a", "+b\n")), patchOf(hunkOf(9, 9, "+a\n", " b\n"), hunkOf(99, 100, "-c")), {OldName: "\xff", NewName: strings.Repeat("n", api.MaxPath), Hunks: []api.PatchHunk{hunkOf(api.MaxLines-1, api.MaxLines-1, "-a", "+b")}},
	} {
		form := checkPatch(t, p)
		at := strings.Index(form, "@@\n") + len("@@\n-")
		room := api.MaxText - len(form)
		for _, more := range []int{-1, 0, 1, 2, api.MaxText} {
			long := strings.Repeat("x", room+more)
			s := form[:at] + long + form[at:]
			if more > 0 {
				if got, e := Parse(s); e != api.ErrLimit || !testkit.SamePatch(got, api.Patch{}) {
					t.Errorf("P13.1: Parse of %.40q and %d bytes more than MaxText = %.40v, %d, want ErrLimit", s, more, got, e)
				}
				continue
			}
			line := &p.Hunks[0].Lines[0]
			short := line.Text
			line.Text = long + short
			if again := checkPatch(t, p); again != s {
				t.Errorf("the written form of %.40v is not the text %.40q", p, s)
			}
			line.Text = short
		}
	}
}

// TestMalformedLimit checks that a text which is both too long and malformed has the first error.
func TestMalformedLimit(t *testing.T) {
	for _, s := range []string{"x", "\n", "--- ", names, names + "\n", names + "@@ -1 +1 @@\n x\n", examples[1] + "x"} {
		for _, more := range []int{-1, 0, 1} {
			long := s + strings.Repeat("x\n", api.MaxText)[:api.MaxText-len(s)+more]
			want := api.ErrForm
			if more > 0 {
				want = api.ErrLimit
			}
			if p, e := Parse(long); e != want || !testkit.SamePatch(p, api.Patch{}) {
				t.Errorf("P13.1: Parse(%.40q) of %d bytes = %.40v, %d, want %d", long, len(long), p, e, want)
			}
		}
	}
}

// TestNames checks the limits of both names, whose bytes are counted, not those of their words.
func TestNames(t *testing.T) {
	for _, b := range []string{"n", " ", "\"", "\xff", "\u00e9"} {
		most := strings.Repeat(b, api.MaxPath/len(b))
		checkPatch(t, api.Patch{OldName: most, NewName: "b"})
		checkPatch(t, api.Patch{OldName: "a", NewName: most})
		checkPatch(t, api.Patch{OldName: most, NewName: most, Hunks: []api.PatchHunk{hunkOf(0, 0, "-a\n")}})
		checkForm(t, "--- "+scan.Quote(most+"n")+"\n+++ b\n")
		checkForm(t, "--- a\n+++ "+scan.Quote(most+"n")+"\n")
	}
	checkForm(t, "--- "+strings.Repeat("n", api.MaxText-11)+"\n+++ b\n")
}

// TestPositions checks the last lines that a patch may have, and numbers far behind them.
func TestPositions(t *testing.T) {
	const most = api.MaxLines
	for _, p := range []api.Patch{
		patchOf(hunkOf(most-1, most-1, "-a\n")), patchOf(hunkOf(most-1, most-1, "-a", "+b")), patchOf(hunkOf(most-1, most-1, "+a\n")), patchOf(hunkOf(0, 0, "-a\n"), hunkOf(most, most-1, "+b\n")), patchOf(hunkOf(0, 0, "+a\n"), hunkOf(most-1, most, "-b\n")),
	} {
		checkPatch(t, p)
	}
	for _, s := range []string{
		"@@ -4097 +4096,0 @@\n-a\n", "@@ -4096,0 +4097 @@\n+a\n", "@@ -4096,2 +4095,0 @@\n-a\n-b\n", "@@ -4096 +4096,2 @@\n-a\n+b\n+c\n", "@@ -1 +0,0 @@\n-a\n@@ -4097,0 +4097 @@\n+a\n", "@@ -1 +0,0 @@\n-a\n@@ -4097 +4095,0 @@\n-a\n", "@@ -0,0 +1 @@\n+a\n@@ -4096,0 +4098 @@\n+a\n", "@@ -2147483647 +2147483646,0 @@\n-a\n", "@@ -2147483646,0 +2147483647 @@\n+a\n", "@@ -2147483647,0 +2147483647,0 @@\n+a\n", "@@ -2147483648 +2147483647,0 @@\n-a\n", "@@ -1,2147483647 +0,0 @@\n-a\n", "@@ -1,4294967297 +0,0 @@\n-a\n", "@@ -4294967297 +4294967296,0 @@\n-a\n", "@@ -18446744073709551617 +18446744073709551616,0 @@\n-a\n", "@@ -1 +" + strings.Repeat("0", 1<<20) + " @@\n-a\n", "@@ -" + strings.Repeat("9", 1<<20) + " +0,0 @@\n-a\n",
	} {
		checkForm(t, names+s)
		checkForm(t, names+"@@ -1 +1 @@\n-a\n+a\n"+s)
	}
}

// TestManyLines checks patches with as many lines and hunks as possible, and texts with one more.
func TestManyLines(t *testing.T) {
	const most = api.MaxLines
	// Each line is a hunk of its own, and the last ones have no line feed.
	var hunks []api.PatchHunk
	for k := range most {
		hunks = append(hunks, hunkOf(k, k, "-\n"), hunkOf(k+1, k, "+\n"))
	}
	hunks[2*most-2].Lines[0].Text = "-"
	hunks[2*most-1].Lines[0].Text = "+"
	s := checkPatch(t, patchOf(hunks...))
	if n := strings.Count(s, "\n"); n != mostLines {
		t.Errorf("the longest patch is written in %d lines", n)
	}
	for _, more := range []string{"\n", "-\n", "+\n", " \n", note, "@@ -4096,0 +4097 @@\n", "@@ -4096,0 +4097 @@\n+x\n"} {
		checkForm(t, s+more)
	}
	for _, lines := range [][]string{slices.Repeat([]string{"-\n"}, most), slices.Repeat([]string{"+a\n"}, most), slices.Repeat([]string{"-a\n", "+b\n"}, most), append(slices.Repeat([]string{" \n"}, most-1), "-b", "+a")} {
		p := patchOf(hunkOf(0, 0, lines...))
		s := checkPatch(t, p)
		for _, kind := range []string{"-", "+", " "} {
			checkForm(t, s+kind+"\n")
		}
		// The header tells that there is one line more.
		for _, more := range []string{"-\n", "+\n", " \n"} {
			checkForm(t, strings.Replace(s, "4096", "4097", 1)+more)
			checkForm(t, strings.ReplaceAll(s, "4096", "4097")+more)
		}
	}
}

// TestLongTexts checks R1 for long texts that are like a part of a patch everywhere.
func TestLongTexts(t *testing.T) {
	for _, start := range []string{"", names, names + "@@ -1 +1 @@\n", names + "@@ -1 +1 @@\n-x\n"} {
		for _, part := range []string{"\n", " \n", "-\n", "+\n", "\\\n", "@\n", "-x\n+x\n", note, "-x\n" + note, "@@ -1 +1 @@\n", "@@ -1 +0,0 @@\n-x\n", "--- a\n", "+++ b\n", names, "--- \"", "\\", "@@ -", "9"} {
			s := start + strings.Repeat(part, (api.MaxText-len(start))/len(part))
			checkForm(t, s)
			checkForm(t, s[:len(s)-1])
		}
	}
}
