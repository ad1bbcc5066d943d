package patch

import (
	"slices"
	"strings"
	"testing"

	"mergelens/api"
	"mergelens/testkit"
	"mergelens/unified"
)

// Short names for the tables.
var (
	patchOf, hunkOf     = testkit.PatchOf, testkit.HunkOf
	linesOf, isTooLarge = testkit.LinesOf, testkit.IsTooLarge
)

// fitting is the definition of Fits without an error.
func fitting(p api.Patch, lines []string) int {
	for k, h := range p.Hunks {
		if h.Old > len(lines) {
			return k
		}
		for i, line := range testkit.SideOf(h, '-') {
			if h.Old+i == len(lines) || lines[h.Old+i] != line {
				return k
			}
		}
	}
	return len(p.Hunks)
}

// argumentError is the definition of the errors that Apply and Fits have in common.
func argumentError(p api.Patch, blob string) api.Errno {
	if e := unified.Check(p); e != api.OK {
		return e
	}
	if isTooLarge(linesOf(blob)) {
		return api.ErrLimit
	}
	return api.OK
}

// applied is the definition of Apply: the last hunk is replaced first, so that the positions of those before it stay.
func applied(p api.Patch, blob string) (string, api.Errno) {
	if e := argumentError(p, blob); e != api.OK {
		return "", e
	}
	lines := linesOf(blob)
	if fitting(p, lines) < len(p.Hunks) {
		return "", api.ErrApply
	}
	for _, h := range slices.Backward(p.Hunks) {
		lines = slices.Replace(lines, h.Old, h.Old+len(testkit.SideOf(h, '-')), testkit.SideOf(h, '+')...)
	}
	result := strings.Join(lines, "")
	switch {
	case !slices.Equal(linesOf(result), lines):
		return "", api.ErrApply
	case isTooLarge(lines):
		return "", api.ErrLimit
	}
	return result, api.OK
}

// turned is the definition of Reverse.
func turned(p api.Patch) (api.Patch, api.Errno) {
	if e := unified.Check(p); e != api.OK {
		return api.Patch{}, e
	}
	q := testkit.ClonePatch(p)
	q.OldName, q.NewName = p.NewName, p.OldName
	for i, h := range p.Hunks {
		q.Hunks[i].Old, q.Hunks[i].New = h.New, h.Old
		for k, line := range h.Lines {
			q.Hunks[i].Lines[k].Kind = map[byte]byte{' ': ' ', '-': '+', '+': '-'}[line.Kind]
		}
	}
	return q, api.OK
}

// compare compares Apply and Fits with their definitions, and checks the way back. It returns the result and the error of Apply.
func compare(t *testing.T, p api.Patch, blob string) (string, api.Errno) {
	t.Helper()
	want, e := applied(p, blob)
	result, got := Apply(p, blob)
	if result != want || got != e {
		t.Fatalf("P14.1: Apply(%.200v, %.40q) = %.40q, %d, want %.40q, %d", p, blob, result, got, want, e)
	}
	count, f := 0, argumentError(p, blob)
	if f == api.OK {
		count = fitting(p, linesOf(blob))
	}
	if n, g := Fits(p, blob); n != count || g != f {
		t.Fatalf("P14.3: Fits(%.200v, %.40q) = %d, %d, want %d, %d", p, blob, n, g, count, f)
	}
	if e == api.OK {
		q, f := Reverse(p)
		if back, g := Apply(q, result); f != api.OK || g != api.OK || back != blob {
			t.Fatalf("P14.4: after Apply(%.200v, %.40q) = %.40q the reversed patch makes %.40q of it, %d, %d", p, blob, result, back, f, g)
		}
	}
	return result, got
}

// compareReverse compares Reverse with its definition, and checks that it is its own inverse. It returns the error.
func compareReverse(t *testing.T, p api.Patch) api.Errno {
	t.Helper()
	want, e := turned(p)
	q, got := Reverse(p)
	if got != e || !testkit.SamePatch(q, want) {
		t.Fatalf("P14.2: Reverse(%.200v) = %.200v, %d, want %.200v, %d", p, q, got, want, e)
	}
	if e == api.OK {
		if again, f := Reverse(q); f != api.OK || !testkit.SamePatch(again, p) {
			t.Fatalf("P14.2: Reverse(%.200v) = %.200v, %d, want %.200v", q, again, f, p)
		}
	}
	return got
}

// made returns the patch of two blobs.
func made(a, b string, context int) api.Patch {
	p, _ := unified.Make("a", "b", a, b, context, true)
	return p
}
