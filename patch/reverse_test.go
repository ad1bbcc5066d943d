package patch

import (
	"strings"
	"testing"

	"mergelens/api"
	"mergelens/testkit"
	"mergelens/unified"
)

// TestReverse checks results that are written out.
func TestReverse(t *testing.T) {
	long := strings.Repeat("\xff", api.MaxPath)
	for _, x := range []struct{ p, want api.Patch }{
		{api.Patch{OldName: "a", NewName: "b"}, api.Patch{OldName: "b", NewName: "a"}}, {api.Patch{OldName: "x", NewName: "x"}, api.Patch{OldName: "x", NewName: "x"}}, {api.Patch{OldName: " ", NewName: long}, api.Patch{OldName: long, NewName: " "}},
		{api.Patch{OldName: "a", NewName: "b", Hunks: []api.PatchHunk{hunkOf(0, 0, "-a\n")}}, api.Patch{OldName: "b", NewName: "a", Hunks: []api.PatchHunk{hunkOf(0, 0, "+a\n")}}},
		// The order of the lines is unchanged: no removed line comes before an added one for its own sake.
		{api.Patch{OldName: "a", NewName: "b", Hunks: []api.PatchHunk{hunkOf(3, 3, " a\n", "-b\n", "-c\n", "+d\n", " e\n", "+f\n", "-g")}}, api.Patch{OldName: "b", NewName: "a", Hunks: []api.PatchHunk{hunkOf(3, 3, " a\n", "+b\n", "+c\n", "-d\n", " e\n", "-f\n", "+g")}}},
		{api.Patch{OldName: "a", NewName: "b", Hunks: []api.PatchHunk{hunkOf(1, 1, "+1\n", "+2\n"), hunkOf(4, 6, "-3\n"), hunkOf(5, 6, "-4", "+5")}}, api.Patch{OldName: "b", NewName: "a", Hunks: []api.PatchHunk{hunkOf(1, 1, "-1\n", "-2\n"), hunkOf(6, 4, "+3\n"), hunkOf(6, 5, "+4", "-5")}}},
		// The kinds are exchanged, not the bytes of the lines.
		{api.Patch{OldName: "-", NewName: "+", Hunks: []api.PatchHunk{hunkOf(0, 0, "-+\n", "+-\n", " -+\n")}}, api.Patch{OldName: "+", NewName: "-", Hunks: []api.PatchHunk{hunkOf(0, 0, "++\n", "--\n", " -+\n")}}},
	} {
		if got, e := Reverse(x.p); e != api.OK || !testkit.SamePatch(got, x.want) {
			t.Errorf("P14.2: Reverse(%v) = %v, %d, want %v", x.p, got, e, x.want)
		}
		if got, e := Reverse(x.want); e != api.OK || !testkit.SamePatch(got, x.p) {
			t.Errorf("P14.2: Reverse(%v) = %v, %d, want %v", x.want, got, e, x.p)
		}
		compareReverse(t, x.p)
	}
}

// TestReverseErrors checks that Reverse has the error of unified.Check, and no patch then.
func TestReverseErrors(t *testing.T) {
	long := strings.Repeat("n", api.MaxPath+1)
	for _, x := range []struct {
		p    api.Patch
		want api.Errno
	}{
		{api.Patch{}, api.ErrName}, {api.Patch{OldName: "a"}, api.ErrName}, {api.Patch{NewName: "a"}, api.ErrName}, {api.Patch{OldName: long, NewName: "a"}, api.ErrName}, {api.Patch{OldName: "a", NewName: long, Hunks: []api.PatchHunk{hunkOf(0, 0)}}, api.ErrName},
		{patchOf(hunkOf(0, 0)), api.ErrHunk}, {patchOf(hunkOf(0, 0, " a\n")), api.ErrHunk}, {patchOf(hunkOf(0, 1, "-a\n")), api.ErrHunk}, {patchOf(hunkOf(-1, -1, "-a\n")), api.ErrHunk}, {patchOf(hunkOf(0, 0, "-")), api.ErrHunk}, {patchOf(hunkOf(0, 0, "?a\n", "-a\n")), api.ErrHunk}, {patchOf(hunkOf(0, 0, "-a", "-b\n")), api.ErrHunk}, {patchOf(hunkOf(0, 0, "-a\n"), hunkOf(1, 1, "-a\n")), api.ErrHunk}, {patchOf(hunkOf(api.MaxLines, api.MaxLines, "-a\n")), api.ErrHunk},
		{patchOf(hunkOf(0, 0, "-"+strings.Repeat("x", api.MaxText))), api.ErrLimit}, {patchOf(hunkOf(0, 0, "-"+strings.Repeat("x", api.MaxText)), hunkOf(0, 0, "+a")), api.ErrHunk},
	} {
		if got, e := Reverse(x.p); e != x.want || !testkit.SamePatch(got, api.Patch{}) {
			t.Errorf("P14.2: Reverse(%.100v) = %.100v, %d, want the error %d", x.p, got, e, x.want)
		}
	}
}

// TestReverseLimit checks patches whose written form is as long as possible, or too long: that of the way back is as long.
func TestReverseLimit(t *testing.T) {
	p := patchOf(hunkOf(1, 1, "+\n"), hunkOf(8, 9, "-x"))
	form, _ := unified.Format(p)
	for _, more := range []int{-1, 0, 1, 2} {
		want := api.OK
		if more > 0 {
			want = api.ErrLimit
		}
		p.Hunks[0].Lines[0].Text = strings.Repeat("x", api.MaxText-len(form)+more) + "\n"
		if e := compareReverse(t, p); e != want {
			t.Errorf("P14.2: Reverse of a patch with %d bytes more than MaxText has the error %d, want %d", more, e, want)
		}
	}
}
