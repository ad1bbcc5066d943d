package testkit

import (
	"math/rand"
	"slices"
	"strings"
	"testing"

	"mergelens/api"
)

func TestEachList(t *testing.T) {
	var got []string
	EachList([]string{"a", "b"}, 2, func(list []string) { got = append(got, strings.Join(list, "")) })
	slices.Sort(got)
	if !slices.Equal(got, []string{"", "a", "aa", "ab", "b", "ba", "bb"}) {
		t.Errorf("EachList goes through %q", got)
	}
}

func TestPatches(t *testing.T) {
	want := api.Patch{OldName: "a", NewName: "b", Hunks: []api.PatchHunk{{Old: 1, New: 2, Lines: []api.PatchLine{{Kind: '-', Text: "x\n"}, {Kind: '+'}}}, {Old: -3}}}
	got := PatchOf(HunkOf(1, 2, "-x\n", "+"), HunkOf(-3, 0))
	if !SamePatch(got, want) || got.OldName != "a" || len(got.Hunks) != 2 || len(got.Hunks[0].Lines) != 2 || got.Hunks[1].Old != -3 {
		t.Errorf("PatchOf = %v", got)
	}
	for i, other := range []api.Patch{
		{}, PatchOf(), PatchOf(HunkOf(1, 2, "-x\n", "+")), PatchOf(HunkOf(1, 2, "-x\n", "+"), HunkOf(-3, 1)), PatchOf(HunkOf(1, 2, "-x\n", "+"), HunkOf(3, 0)), PatchOf(HunkOf(1, 2, "-x\n", "-"), HunkOf(-3, 0)), PatchOf(HunkOf(1, 2, "-x", "+"), HunkOf(-3, 0)), PatchOf(HunkOf(1, 2, "-x\n"), HunkOf(-3, 0)), {OldName: "a", NewName: "a", Hunks: want.Hunks}, {OldName: "b", NewName: "b", Hunks: want.Hunks},
	} {
		if SamePatch(want, other) || SamePatch(other, want) {
			t.Errorf("SamePatch is true of patch %d, which is another one", i)
		}
	}
}

func TestMixedPatch(t *testing.T) {
	r := rand.New(rand.NewSource(13))
	found := map[string]bool{}
	for range 1000 {
		for _, h := range MixedPatch(r.Intn).Hunks {
			for _, line := range h.Lines {
				found[string(line.Kind)+line.Text] = true
				if line.Text == "" {
					t.Error("a mixed patch has a line without bytes")
				}
			}
		}
	}
	for _, kind := range " -+" {
		for i := range "abc\n" {
			for _, line := range []string{"abc\n"[i:], "abc"[min(i, 2):]} {
				if !found[string(kind)+line] {
					t.Errorf("no mixed patch has the line %q of the kind %q", line, kind)
				}
			}
		}
	}
}

func TestClonePatch(t *testing.T) {
	p := PatchOf(HunkOf(1, 1, "-x\n", "+y"), HunkOf(2, 2))
	q := ClonePatch(p)
	if !SamePatch(p, q) {
		t.Errorf("ClonePatch(%v) = %v", p, q)
	}
	Spoil(q.Hunks[0].Lines, api.PatchLine{Kind: '?'})
	Spoil(q.Hunks, api.PatchHunk{Old: 9})
	if want := PatchOf(HunkOf(1, 1, "-x\n", "+y"), HunkOf(2, 2)); !SamePatch(p, want) {
		t.Errorf("a change of the clone changes the patch to %v", p)
	}
}

func TestSideOf(t *testing.T) {
	h := HunkOf(3, 4, " a\n", "+b\n", "-c\n", "+d", "-e")
	if got := SideOf(h, '-'); !slices.Equal(got, []string{"a\n", "c\n", "e"}) {
		t.Errorf("the old lines are %q", got)
	}
	if got := SideOf(h, '+'); !slices.Equal(got, []string{"a\n", "b\n", "d"}) {
		t.Errorf("the new lines are %q", got)
	}
	if got := SideOf(api.PatchHunk{}, '+'); len(got) > 0 {
		t.Errorf("the new lines of nothing are %q", got)
	}
}

// TestSpoilPatch checks that there are several changes, each of one hunk.
func TestSpoilPatch(t *testing.T) {
	r := rand.New(rand.NewSource(14))
	p := PatchOf(HunkOf(1, 1, " a\n", "-b\n"), HunkOf(9, 8, "+c\n"))
	var found []api.Patch
	for range 1000 {
		q := ClonePatch(p)
		SpoilPatch(q, r.Intn)
		if !slices.ContainsFunc(found, func(other api.Patch) bool { return SamePatch(q, other) }) {
			found = append(found, q)
		}
		if len(q.Hunks) != 2 || !SamePatch(PatchOf(q.Hunks[0]), PatchOf(p.Hunks[0])) && !SamePatch(PatchOf(q.Hunks[1]), PatchOf(p.Hunks[1])) {
			t.Errorf("SpoilPatch makes %v of %v", q, p)
		}
	}
	if len(found) < 30 {
		t.Errorf("SpoilPatch makes only %d patches of one", len(found))
	}
	empty := PatchOf()
	SpoilPatch(empty, r.Intn)
	if !SamePatch(empty, PatchOf()) {
		t.Errorf("SpoilPatch makes %v of a patch without hunks", empty)
	}
}

func TestAddPatch(t *testing.T) {
	var list Answers
	list.AddPatch(PatchOf(HunkOf(1, 2, "-x\n"), HunkOf(3, 4)), api.OK)
	list.AddPatch(api.Patch{}, api.ErrForm)
	if !slices.Equal(list, []string{"a", "b", "0", "2", "1", "2", "1", "-", "x\n", "3", "4", "0", "", "", "4", "0"}) {
		t.Errorf("the answers are %q", list)
	}
}
