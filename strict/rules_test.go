package strict

import (
	"slices"
	"testing"

	"mergelens/api"
	"mergelens/testkit"
)

// TestNewLists checks R4: no list of a result shares memory with another list, not even beyond its length.
func TestNewLists(t *testing.T) {
	want := patchOf(hunkOf(1, 1, "-2\n"), hunkOf(5, 4, " a\n", "+0\n"), hunkOf(8, 8, "-9\n", "+x"))
	s := checkPatch(t, want)
	first, _ := Parse(s)
	second, _ := Parse(s)
	for i := range first.Hunks {
		testkit.Spoil(first.Hunks[i].Lines, api.PatchLine{Kind: '?'})
		for _, h := range first.Hunks[i+1:] {
			if slices.ContainsFunc(h.Lines, func(line api.PatchLine) bool { return line.Kind == '?' }) {
				t.Errorf("R4: a change of hunk %d changes another hunk", i)
			}
		}
	}
	testkit.Spoil(first.Hunks, api.PatchHunk{Old: 9})
	third, _ := Parse(s)
	if !testkit.SamePatch(second, want) || !testkit.SamePatch(third, want) {
		t.Errorf("R4: the patches are %v and %v after a change of another one, want %v", second, third, want)
	}
	some, _ := Lines("a\nb\n")
	others, _ := Lines("a\nb\n")
	testkit.Spoil(some, "x")
	if again, _ := Lines("a\nb\n"); !slices.Equal(others, []string{"a", "b"}) || !slices.Equal(again, others) {
		t.Errorf("R4: the lines are %q and %q after a change of other ones", others, again)
	}
}

// answers collects the results of calls of all functions.
func answers() []string {
	var list testkit.Answers
	add := func(s string) {
		p, e := Parse(s)
		list.AddPatch(p, e)
		lines, ok := Lines(s)
		list = append(list, lines...)
		if ok {
			list.Add(len(lines))
		}
	}
	for _, s := range examples {
		for i := range s {
			add(s[:i])
			add(s[:i] + s[i+1:])
		}
		add(s)
	}
	return list
}

// TestSameResults checks R5: later calls and calls at the same time have the same results.
func TestSameResults(t *testing.T) {
	if !testkit.Same(answers) {
		t.Error("R5: other results of the same calls")
	}
}
