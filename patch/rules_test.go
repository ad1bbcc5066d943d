package patch

import (
	"math"
	"slices"
	"testing"

	"mergelens/api"
	"mergelens/testkit"
)

// extremes lists positions in and far out of range.
var extremes = []int{math.MinInt, -1 << 32, -1, 0, 1, 2, 3, api.MaxLines - 1, api.MaxLines, api.MaxLines + 1, 1 << 32, math.MaxInt - 1, math.MaxInt}

// TestExtremePositions checks R1 and R3: all functions return for any positions, with the results that are defined.
func TestExtremePositions(t *testing.T) {
	call := func(hunks ...api.PatchHunk) {
		for _, blob := range []string{"", "a\n", "a\nb\nb\n"} {
			compare(t, patchOf(hunks...), blob)
		}
		compareReverse(t, patchOf(hunks...))
	}
	for _, lines := range [][]string{nil, {"-a\n"}, {"+a\n"}, {" a\n", "-b\n", "+c\n", "+d\n"}} {
		for _, old := range extremes {
			for _, now := range extremes {
				x := hunkOf(old, now, lines...)
				call(x)
				call(hunkOf(0, 0, "-a\n"), x)
				for _, other := range extremes {
					call(x, hunkOf(other, now, lines...))
					call(x, hunkOf(old, other, lines...))
				}
			}
		}
	}
}

// TestArgumentsStay checks that, as R4 says, all functions leave their arguments as they are, even behind their ends.
func TestArgumentsStay(t *testing.T) {
	all := patchOf(hunkOf(1, 1, " a\n", "-b\n", "+c\n"), hunkOf(3, 3, "+d\n", "-e\n", "+f\n"), hunkOf(4, 5, "-g"), hunkOf(9, 9))
	p := testkit.ClonePatch(all)
	call := func(p api.Patch) {
		for _, blob := range []string{"", "0\na\nb\ne\ng", "0\na\nb\ne\ng\n"} {
			Apply(p, blob)
			Fits(p, blob)
		}
		Reverse(p)
	}
	for n, h := range p.Hunks {
		call(patchOf(p.Hunks[:n]...))
		for m := range h.Lines {
			call(patchOf(api.PatchHunk{Old: 1, New: 1, Lines: h.Lines[:m]}))
		}
	}
	call(p)
	if !testkit.SamePatch(p, all) {
		t.Errorf("R4: the patch is %v, not %v", p, all)
	}
}

// TestNewLists checks R4: no list of a reversed patch shares memory with another list, not even beyond its length.
func TestNewLists(t *testing.T) {
	all := patchOf(hunkOf(1, 1, " a\n", "-b\n", "+c\n"), hunkOf(3, 3, "+d\n"), hunkOf(9, 10, "-e\n", "+f"))
	p := testkit.ClonePatch(all)
	want, _ := turned(all)
	first, _ := Reverse(p)
	second, _ := Reverse(p)
	for i := range first.Hunks {
		testkit.Spoil(first.Hunks[i].Lines, api.PatchLine{Kind: '?'})
		for _, h := range first.Hunks[i+1:] {
			if slices.ContainsFunc(h.Lines, func(line api.PatchLine) bool { return line.Kind == '?' }) {
				t.Errorf("R4: a change of hunk %d changes another hunk", i)
			}
		}
	}
	testkit.Spoil(first.Hunks, api.PatchHunk{Old: 9})
	if third, _ := Reverse(p); !testkit.SamePatch(p, all) || !testkit.SamePatch(second, want) || !testkit.SamePatch(third, want) {
		t.Errorf("R4: the patches are %v, %v and %v after a change of another one, want %v and %v", p, second, third, all, want)
	}
	for i := range p.Hunks {
		testkit.Spoil(p.Hunks[i].Lines, api.PatchLine{Kind: '?'})
	}
	testkit.Spoil(p.Hunks, api.PatchHunk{Old: 9})
	if !testkit.SamePatch(second, want) {
		t.Errorf("R4: a change of the argument changes the result to %v", second)
	}
}

// answers collects the results of calls of all functions.
func answers() []string {
	var list testkit.Answers
	blobs := []string{"", "a", "a\n", "a\nb", "b\na\nc\n", "a\na\na\nb\n", "b\na\na\nb\nc", "1\n2\n3\n4\n5\n6\n", "1\n3\n4\n6\n6\n5\n"}
	for _, a := range blobs {
		for _, b := range blobs {
			for context := range 3 {
				p := made(a, b, context)
				q, e := Reverse(p)
				list.AddPatch(q, e)
				for _, blob := range blobs {
					s, e := Apply(p, blob)
					n, f := Fits(q, blob)
					list = append(list, s)
					list.Add(int(e), n, int(f))
				}
			}
		}
	}
	return list
}

// TestSameResults checks R5: later calls and calls at the same time have the same results.
func TestSameResults(t *testing.T) {
	if !testkit.Same(answers) {
		t.Error("R5: other results of the same calls")
	}
}
