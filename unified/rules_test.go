package unified

import (
	"testing"

	"mergelens/api"
	"mergelens/testkit"
)

// TestArgumentsStay checks that, as R4 says, all functions leave their arguments as they are, even behind their ends.
func TestArgumentsStay(t *testing.T) {
	all := patchOf(hunkOf(1, 1, " a\n", "-b\n", "+c\n"), hunkOf(3, 3, "+d\n", "-e", "+f\n"), hunkOf(9, 9))
	p := testkit.ClonePatch(all)
	call := func(p api.Patch) {
		Check(p)
		Format(p)
		Count(p)
	}
	for n, h := range p.Hunks {
		call(patchOf(p.Hunks[:n]...))
		for m := range h.Lines {
			call(patchOf(api.PatchHunk{Old: h.Old, New: h.New, Lines: h.Lines[:m]}))
		}
	}
	call(p)
	if !testkit.SamePatch(p, all) {
		t.Errorf("R4: the patch is %v, not %v", p, all)
	}
}

// TestNewLists checks R4: no list of a patch shares memory with another list, not even beyond its length.
func TestNewLists(t *testing.T) {
	const a, b = "1\n2\n3\n4\n5\n6\n7\n8\n9\n", "1\n3\n4\n5\n0\n6\n7\n8\nx"
	want := patchOf(hunkOf(1, 1, "-2\n"), hunkOf(5, 4, "+0\n"), hunkOf(8, 8, "-9\n", "+x"))
	first, e := Make("a", "b", a, b, 0, false)
	second, f := Make("a", "b", a, b, 0, true)
	if e != api.OK || f != api.OK || !testkit.SamePatch(first, want) || !testkit.SamePatch(second, want) {
		t.Fatalf("P12.2: Make = %v, %d and %v, %d, want %v", first, e, second, f, want)
	}
	for i := range first.Hunks {
		testkit.Spoil(first.Hunks[i].Lines, api.PatchLine{Kind: '?'})
		for _, h := range first.Hunks[i+1:] {
			for _, line := range h.Lines {
				if line.Kind == '?' {
					t.Errorf("R4: a change of hunk %d changes another hunk", i)
				}
			}
		}
	}
	testkit.Spoil(first.Hunks, api.PatchHunk{Old: 9})
	third, _ := Make("a", "b", a, b, 0, false)
	if !testkit.SamePatch(second, want) || !testkit.SamePatch(third, want) {
		t.Errorf("R4: the patches are %v and %v after a change of another one, want %v", second, third, want)
	}
}

// answers collects the results of calls of all functions.
func answers() []string {
	var list testkit.Answers
	blobs := []string{"", "a", "a\n", "a\nb", "b\na\nc\n", "a\na\na\nb\n", "b\na\na\nb\nc", "1\n2\n3\n4\n5\n6\n", "1\n3\n4\n6\n6\n5\n"}
	for _, a := range blobs {
		for _, b := range blobs {
			for context := -1; context < 3; context++ {
				p, e := Make(a, "b", a, b, context, context != 1)
				form, f := Format(p)
				minus, plus := Count(p)
				list = append(list, p.OldName, p.NewName, form)
				list.Add(int(e), int(f), int(Check(p)), minus, plus)
			}
		}
	}
	return list
}

// TestSameResults checks R5: later calls and calls at the same time have the same results.
func TestSameResults(t *testing.T) {
	if !testkit.Same(answers) {
		t.Error("R5: other results of the same calls")
	}
}
