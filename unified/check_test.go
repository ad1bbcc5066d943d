package unified

import (
	"math/rand"
	"slices"
	"strings"
	"testing"

	"mergelens/api"
	"mergelens/testkit"
)

// TestCheck checks patches whose errors are written out.
func TestCheck(t *testing.T) {
	const ok, bad = api.OK, api.ErrHunk
	const most = api.MaxLines
	for _, x := range []struct {
		p    api.Patch
		want api.Errno
	}{
		{patchOf(), ok}, {patchOf(hunkOf(0, 0, "-a\n")), ok}, {patchOf(hunkOf(0, 0, "+a")), ok}, {patchOf(hunkOf(7, 7, " a\n", "-b", "+c\n")), ok},
		// A hunk needs a change.
		{patchOf(hunkOf(0, 0)), bad}, {patchOf(hunkOf(0, 0, " a\n")), bad}, {patchOf(hunkOf(0, 0, " a\n", " b\n")), bad}, {patchOf(hunkOf(0, 0, "-a\n"), hunkOf(1, 0)), bad}, {patchOf(hunkOf(0, 0, "-a\n"), hunkOf(1, 0, " b\n")), bad}, {patchOf(hunkOf(0, 0, " a\n"), hunkOf(1, 1, "-b\n")), bad}, {patchOf(hunkOf(0, 0, "-a\n", "+b\n")), ok}, {patchOf(hunkOf(0, 0, "+b\n", "-a\n")), ok}, {patchOf(hunkOf(0, 0, "-a\n", " b\n", " c\n")), ok},
		// Texts.
		{patchOf(hunkOf(0, 0, "-")), bad}, {patchOf(hunkOf(0, 0, "+")), bad}, {patchOf(hunkOf(0, 0, "-a\n", " ")), bad}, {patchOf(hunkOf(0, 0, "-\n")), ok}, {patchOf(hunkOf(0, 0, "-\n\n")), bad}, {patchOf(hunkOf(0, 0, "-\na")), bad}, {patchOf(hunkOf(0, 0, "-a\nb\n")), bad}, {patchOf(hunkOf(0, 0, "-a\nb")), bad}, {patchOf(hunkOf(0, 0, "-\xff\x00\r\n")), ok}, {patchOf(hunkOf(0, 0, "-@@ -1 +1 @@\n", "+\\ No newline at end of file\n")), ok},
		// Kinds.
		{patchOf(hunkOf(0, 0, "\\a\n", "-b\n")), bad}, {patchOf(hunkOf(0, 0, "-b\n", "@a\n")), bad}, {patchOf(hunkOf(0, 0, "-b\n", "\x00a\n")), bad}, {patchOf(hunkOf(0, 0, "-b\n", "\na\n")), bad}, {patchOf(hunkOf(0, 0, "-b\n", "\xada\n")), bad},
		// The first hunk.
		{patchOf(hunkOf(1, 0, "-a\n")), bad}, {patchOf(hunkOf(0, 1, "+a\n")), bad}, {patchOf(hunkOf(-1, -1, "-a\n")), bad}, {patchOf(hunkOf(-1, 0, "+a\n")), bad}, {patchOf(hunkOf(0, -1, "-a\n")), bad}, {patchOf(hunkOf(2, 2, "+a\n")), ok},
		// The gaps of further hunks.
		{patchOf(hunkOf(2, 2, "-a\n"), hunkOf(3, 2, "+b\n")), ok}, {patchOf(hunkOf(2, 2, "-a\n"), hunkOf(9, 8, "+b\n")), ok}, {patchOf(hunkOf(2, 2, "-a\n"), hunkOf(3, 3, "+b\n")), bad}, {patchOf(hunkOf(2, 2, "-a\n"), hunkOf(4, 2, "+b\n")), bad}, {patchOf(hunkOf(2, 2, "-a\n"), hunkOf(2, 1, "+b\n")), bad}, {patchOf(hunkOf(2, 2, "-a\n"), hunkOf(0, -1, "+b\n")), bad}, {patchOf(hunkOf(2, 2, "-a\n"), hunkOf(2, 2, "-a\n")), bad}, {patchOf(hunkOf(2, 2, "+a\n", "+b\n"), hunkOf(2, 4, "-c\n")), ok}, {patchOf(hunkOf(2, 2, "+a\n", "+b\n"), hunkOf(1, 3, "-c\n")), bad}, {patchOf(hunkOf(5, 5, " a\n", "-b\n"), hunkOf(7, 6, "-c\n"), hunkOf(8, 6, "-d\n")), ok}, {patchOf(hunkOf(5, 5, " a\n", "-b\n"), hunkOf(7, 6, "-c\n"), hunkOf(8, 7, "-d\n")), bad}, {patchOf(hunkOf(5, 5, "-a\n"), hunkOf(0, 0, "-b\n")), bad},
		// The ends.
		{patchOf(hunkOf(most-1, most-1, "-a\n")), ok}, {patchOf(hunkOf(most, most, "-a\n")), bad}, {patchOf(hunkOf(most, most, "+a\n")), bad}, {patchOf(hunkOf(most-1, most-1, "-a\n", "+b\n")), ok}, {patchOf(hunkOf(most-1, most-1, "+a\n", "+b\n")), bad}, {patchOf(hunkOf(most-1, most-1, "-a\n", "-b\n")), bad}, {patchOf(hunkOf(most-1, most-1, " a\n", "-b\n")), bad}, {patchOf(hunkOf(most+1, most+1, "-a\n")), bad},
		{patchOf(hunkOf(0, 0, "-a\n"), hunkOf(most-1, most-2, "-b\n")), ok}, {patchOf(hunkOf(0, 0, "-a\n"), hunkOf(most, most-1, "-b\n")), bad}, {patchOf(hunkOf(0, 0, "-a\n"), hunkOf(most, most-1, "+b\n")), ok}, {patchOf(hunkOf(0, 0, "-a\n"), hunkOf(most+1, most, "+b\n")), bad}, {patchOf(hunkOf(0, 0, "-a\n", "-b\n"), hunkOf(most+1, most-1, "+b\n")), bad}, {patchOf(hunkOf(0, 0, "+a\n"), hunkOf(most-1, most, "-b\n")), ok}, {patchOf(hunkOf(0, 0, "+a\n", "+b\n"), hunkOf(most-1, most+1, "-b\n")), bad}, {patchOf(hunkOf(0, 0, "+a\n"), hunkOf(most-1, most, "+b\n")), bad},
		// Line feeds.
		{patchOf(hunkOf(0, 0, "-a", "-b\n")), bad}, {patchOf(hunkOf(0, 0, "+a", "+b\n")), bad}, {patchOf(hunkOf(0, 0, "-a", "+b\n", "+c")), ok}, {patchOf(hunkOf(0, 0, "+b", "-a", "-c\n")), bad}, {patchOf(hunkOf(0, 0, "-a", "+b\n", "-c\n")), bad}, {patchOf(hunkOf(0, 0, "-a", "+b\n", " c\n")), bad}, {patchOf(hunkOf(0, 0, "+a", "-b\n", " c\n")), bad}, {patchOf(hunkOf(0, 0, " a", "-b\n")), bad}, {patchOf(hunkOf(0, 0, " a", "+b\n")), bad}, {patchOf(hunkOf(0, 0, "-b\n", " a")), ok}, {patchOf(hunkOf(0, 0, "+b\n", " a")), ok}, {patchOf(hunkOf(0, 0, "-b", "+b")), ok},
		{patchOf(hunkOf(0, 0, "-a"), hunkOf(1, 0, "-b\n")), bad}, {patchOf(hunkOf(0, 0, "+a"), hunkOf(0, 1, "+b\n")), bad}, {patchOf(hunkOf(0, 0, "-a"), hunkOf(1, 0, "+b")), ok}, {patchOf(hunkOf(0, 0, "-b\n", " a"), hunkOf(2, 1, "+c\n")), bad}, {patchOf(hunkOf(0, 0, "+b\n", " a"), hunkOf(1, 2, "-c\n")), bad},
		// Only lines of the patch count, not those between its hunks.
		{patchOf(hunkOf(0, 0, "-a", "+b\n"), hunkOf(2, 2, "+c\n")), ok}, {patchOf(hunkOf(3, 3, "+a"), hunkOf(3, 4, "-b\n"), hunkOf(9, 9, "-c")), ok},
	} {
		if e := Check(x.p); e != x.want {
			t.Errorf("P12.1: Check(%v) = %d, want %d", x.p, e, x.want)
		}
		compareForm(t, x.p)
	}
}

// TestKinds checks that there are three kinds of lines.
func TestKinds(t *testing.T) {
	for b := range 256 {
		want := api.ErrHunk
		if strings.Contains(" -+", string(rune(b))) {
			want = api.OK
		}
		h := hunkOf(0, 0, "-a\n")
		h.Lines = append(h.Lines, api.PatchLine{Kind: byte(b), Text: "b\n"})
		if e := compareForm(t, patchOf(h)); e != want {
			t.Errorf("P12.1: a line of the kind %q has the error %d, want %d", byte(b), e, want)
		}
	}
}

// TestAllLines compares Check and Format with their definitions for all hunks of up to three lines.
func TestAllLines(t *testing.T) {
	var lines []string
	for _, kind := range " -+!" {
		for _, line := range []string{"", "a", "\n", "a\n", "a\n\n", "\na"} {
			lines = append(lines, string(kind)+line)
		}
	}
	testkit.EachList(lines, 3, func(list []string) {
		for _, at := range []int{-1, 0, 1, api.MaxLines - 2, api.MaxLines - 1, api.MaxLines} {
			compareForm(t, patchOf(hunkOf(at, at, list...)))
		}
	})
}

// TestAllPatches compares Check and Format with their definitions for all pairs of small hunks.
func TestAllPatches(t *testing.T) {
	var first, second []api.PatchHunk
	testkit.EachList([]string{" a\n", "-a\n", "+a\n", " b", "-b", "+b"}, 2, func(lines []string) {
		for old := range 4 {
			first = append(first, hunkOf(old/3, old/2, lines...))
			for now := range 4 {
				second = append(second, hunkOf(old, now, lines...))
			}
		}
	})
	valid := 0
	for _, x := range first {
		for _, y := range second {
			if compareForm(t, patchOf(x, y)) == api.OK {
				valid++
			}
		}
	}
	if valid < 1000 {
		t.Errorf("only %d patches are valid", valid)
	}
}

// TestMixedPatches compares Check and Format with their definitions for longer patches, also with small mistakes.
func TestMixedPatches(t *testing.T) {
	r := rand.New(rand.NewSource(12))
	valid := 0
	for range 20000 {
		p := testkit.MixedPatch(r.Intn)
		if e := compareForm(t, p); e != api.OK {
			t.Fatalf("P12.1: the valid patch %v has the error %d", p, e)
		}
		testkit.SpoilPatch(p, r.Intn)
		if compareForm(t, p) == api.OK {
			valid++
		}
	}
	if valid < 1000 || valid > 15000 {
		t.Errorf("%d of the changed patches are valid", valid)
	}
}

// TestNames checks the limits of both names, which are counted in bytes.
func TestNames(t *testing.T) {
	const most = api.MaxPath
	for _, x := range []struct {
		name string
		want api.Errno
	}{
		{"", api.ErrName}, {"a", api.OK}, {" ", api.OK}, {"\n", api.OK}, {"\x00", api.OK}, {"a\tb", api.OK}, {"/dev/null", api.OK}, {strings.Repeat("n", most), api.OK}, {strings.Repeat("n", most+1), api.ErrName}, {strings.Repeat("\"", most), api.OK}, {strings.Repeat("\xff", most), api.OK}, {strings.Repeat("\xff", most+1), api.ErrName}, {strings.Repeat("\u00e9", most/2), api.OK}, {strings.Repeat("\u00e9", most/2) + "e", api.ErrName}, {strings.Repeat("\u00e9", most), api.ErrName}, {strings.Repeat("n", api.MaxText), api.ErrName},
	} {
		for _, p := range []api.Patch{{OldName: x.name, NewName: "n"}, {OldName: "n", NewName: x.name}, {OldName: x.name, NewName: x.name}} {
			p.Hunks = []api.PatchHunk{hunkOf(0, 0, "-a\n")}
			if e := compareForm(t, p); e != x.want {
				t.Errorf("P12.1: Check with the names %.9q and %.9q of %d and %d bytes = %d, want %d", p.OldName, p.NewName, len(p.OldName), len(p.NewName), e, x.want)
			}
		}
	}
}

// TestLimit checks patches whose written form is just short enough, and just too long.
func TestLimit(t *testing.T) {
	for i, p := range []api.Patch{
		patchOf(hunkOf(0, 0, "-a\n")), patchOf(hunkOf(0, 0, "-a")), patchOf(hunkOf(0, 0, "-a", "+b")), patchOf(hunkOf(0, 0, "+b\n", " a")), patchOf(hunkOf(9, 9, " a\n", "-b\n", "+c\n"), hunkOf(99, 99, "+d\n"), hunkOf(100, 101, "-e")), {OldName: strings.Repeat("\xff", api.MaxPath), NewName: "a b", Hunks: []api.PatchHunk{hunkOf(api.MaxLines-2, api.MaxLines-2, "-a\n", "+b\n", "-c", "+d\n")}}, patchOf(hunkOf(0, 0, slices.Repeat([]string{"-a\n", "+a\n"}, api.MaxLines)...)),
	} {
		room := api.MaxText - len(written(p))
		line := &p.Hunks[0].Lines[0]
		short := line.Text
		for _, more := range []int{-1, 0, 1, 2, api.MaxText} {
			want := api.OK
			if more > 0 {
				want = api.ErrLimit
			}
			line.Text = strings.Repeat("x", room+more) + short
			if e := compareForm(t, p); e != want {
				t.Errorf("P12.1: patch %d with %d bytes more than MaxText has the error %d, want %d", i, more, e, want)
			}
		}
	}
}

// TestOrderOfErrors checks patches with several errors.
func TestOrderOfErrors(t *testing.T) {
	long := strings.Repeat("x", api.MaxText)
	limit, wrong, both := hunkOf(0, 0, "-"+long), hunkOf(0, 1, "-a\n"), hunkOf(0, 1, "-"+long)
	for _, x := range []struct {
		hunks []api.PatchHunk
		want  api.Errno
	}{
		{nil, api.OK}, {[]api.PatchHunk{limit}, api.ErrLimit}, {[]api.PatchHunk{wrong}, api.ErrHunk}, {[]api.PatchHunk{both}, api.ErrHunk}, {[]api.PatchHunk{limit, wrong}, api.ErrHunk}, {[]api.PatchHunk{limit, hunkOf(1, 0, "+a\n")}, api.ErrLimit}, {[]api.PatchHunk{limit, hunkOf(1, 0, "-a\n")}, api.ErrHunk}, {[]api.PatchHunk{hunkOf(0, 0, "-a\n", "-"+long+"\n"+long)}, api.ErrHunk},
	} {
		for _, p := range []api.Patch{{OldName: "a", NewName: "b"}, {OldName: "", NewName: "b"}, {OldName: "a", NewName: ""}, {}} {
			p.Hunks = x.hunks
			want := x.want
			if p.OldName == "" || p.NewName == "" {
				want = api.ErrName
			}
			if e := compareForm(t, p); e != want {
				t.Errorf("P12.1: Check with the names %q and %q and %d hunks = %d, want %d", p.OldName, p.NewName, len(p.Hunks), e, want)
			}
		}
	}
}

// TestManyLines checks patches with as many lines and hunks as possible, and with more.
func TestManyLines(t *testing.T) {
	const most = api.MaxLines
	var removals, changes []api.PatchHunk
	for k := range most {
		removals = append(removals, hunkOf(k, 0, "-a\n"))
		changes = append(changes, hunkOf(k, k, "-a\n"), hunkOf(k+1, k, "+b\n"))
	}
	for i, x := range []struct {
		hunks []api.PatchHunk
		want  api.Errno
	}{
		{removals, api.OK}, {changes, api.OK}, {append(slices.Clone(removals), hunkOf(most, 0, "-a\n")), api.ErrHunk}, {append(slices.Clone(removals), hunkOf(most, 0, "+a\n")), api.OK}, {append(slices.Clone(changes), hunkOf(most, most, "+a\n")), api.ErrHunk},
		{[]api.PatchHunk{hunkOf(0, 0, slices.Repeat([]string{"-a\n"}, most)...)}, api.OK}, {[]api.PatchHunk{hunkOf(0, 0, slices.Repeat([]string{"-a\n"}, most+1)...)}, api.ErrHunk}, {[]api.PatchHunk{hunkOf(0, 0, slices.Repeat([]string{"+a\n"}, most+1)...)}, api.ErrHunk}, {[]api.PatchHunk{hunkOf(0, 0, append(slices.Repeat([]string{" a\n"}, most-1), "-b")...)}, api.OK}, {[]api.PatchHunk{hunkOf(0, 0, append(slices.Repeat([]string{" a\n"}, most), "-b")...)}, api.ErrHunk}, {[]api.PatchHunk{hunkOf(0, 0, slices.Repeat([]string{"+a\n", "-a\n"}, most)...)}, api.OK},
	} {
		if e := compareForm(t, patchOf(x.hunks...)); e != x.want {
			t.Errorf("P12.1: Check of list %d of many lines = %d, want %d", i, e, x.want)
		}
	}
}

// TestExtremePositions checks R1 and R3: Check, Format and Count return for any positions, with the error that is defined.
func TestExtremePositions(t *testing.T) {
	lists := [][]string{nil, {"-a\n"}, {"+a\n"}, {" a\n", "-b\n", "+c\n", "+d\n"}}
	for _, old := range extremes {
		for _, now := range extremes {
			for _, lines := range lists {
				x := hunkOf(old, now, lines...)
				compareForm(t, patchOf(x))
				compareForm(t, patchOf(hunkOf(0, 0, "-a\n"), x))
				for _, otherOld := range extremes {
					for _, otherNow := range extremes {
						compareForm(t, patchOf(x, hunkOf(otherOld, otherNow, lines...)))
					}
				}
			}
		}
	}
}

// TestLongLists checks R1 for lists of far more hunks and lines than a patch can have.
func TestLongLists(t *testing.T) {
	for _, h := range []api.PatchHunk{{}, hunkOf(0, 0, "-a\n"), hunkOf(0, 0, slices.Repeat([]string{"-a\n"}, 1<<20)...), hunkOf(0, 0, slices.Repeat([]string{" a"}, 1<<20)...)} {
		p := patchOf(slices.Repeat([]api.PatchHunk{h}, 1<<18/(1+len(h.Lines))+1)...)
		if e := Check(p); e != api.ErrHunk {
			t.Errorf("P12.1: Check of %d hunks = %d", len(p.Hunks), e)
		}
		if s, e := Format(p); e != api.ErrHunk || s != "" {
			t.Errorf("P12.1: Format of %d hunks = %.40q, %d", len(p.Hunks), s, e)
		}
		want := 0
		for _, line := range h.Lines {
			if line.Kind == '-' {
				want += len(p.Hunks)
			}
		}
		if minus, plus := Count(p); minus != want || plus != 0 {
			t.Errorf("P12.3: Count of %d hunks = %d, %d, want %d, 0", len(p.Hunks), minus, plus, want)
		}
	}
}

// TestCount checks numbers that are written out. No patch has an error for Count.
func TestCount(t *testing.T) {
	for _, x := range []struct {
		p           api.Patch
		minus, plus int
	}{
		{api.Patch{}, 0, 0}, {patchOf(), 0, 0}, {patchOf(hunkOf(0, 0)), 0, 0}, {patchOf(hunkOf(0, 0, " a\n", " -\n")), 0, 0}, {patchOf(hunkOf(0, 0, "-+\n")), 1, 0}, {patchOf(hunkOf(0, 0, "+-\n")), 0, 1}, {patchOf(hunkOf(0, 0, " a\n", "-b\n", "+c\n", "+d\n"), hunkOf(9, 10, "-e", "-f", "-g\n", "+h")), 4, 3}, {patchOf(hunkOf(-9, 7, "-", "+", "\\-\n", "\x00+\n", "\xab+\n")), 1, 1}, {api.Patch{Hunks: []api.PatchHunk{hunkOf(0, 0, "+a\nb\n")}}, 0, 1},
	} {
		if minus, plus := Count(x.p); minus != x.minus || plus != x.plus {
			t.Errorf("P12.3: Count(%v) = %d, %d, want %d, %d", x.p, minus, plus, x.minus, x.plus)
		}
	}
}

// TestAllBytes compares Check and Format with their definitions for names and lines of all kinds of bytes.
func TestAllBytes(t *testing.T) {
	testkit.Texts(" -+\\@\n\"a\x00\xff", 3, func(s string) {
		p := api.Patch{OldName: s, NewName: "b", Hunks: []api.PatchHunk{hunkOf(0, 0, "-"+s)}}
		compareForm(t, p)
		p.OldName, p.NewName = "a", s
		compareForm(t, p)
		compareForm(t, patchOf(hunkOf(0, 0, "-"+s, "+"+s)))
	})
}
