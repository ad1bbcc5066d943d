package testkit

import (
	"math/rand"
	"slices"
	"strings"
	"testing"

	"mergelens/api"
)

func TestEachList(t *testing.T) {
	var got []string
	EachList([]string{"a", "b"}, 2, func(list []string) { got = append(got, strings.Join(list, "")) })
	slices.Sort(got)
	if !slices.Equal(got, []string{"", "a", "aa", "ab", "b", "ba", "bb"}) {
		t.Errorf("EachList goes through %q", got)
	}
}

func TestPatches(t *testing.T) {
	want := api.Patch{OldName: "a", NewName: "b", Hunks: []api.PatchHunk{{Old: 1, New: 2, Lines: []api.PatchLine{{Kind: '-', Text: "x\n"}, {Kind: '+'}}}, {Old: -3}}}
	got := PatchOf(HunkOf(1, 2, "-x\n", "+"), HunkOf(-3, 0))
	if !SamePatch(got, want) || got.OldName != "a" || len(got.Hunks) != 2 || len(got.Hunks[0].Lines) != 2 || got.Hunks[1].Old != -3 {
		t.Errorf("PatchOf = %v", got)
	}
	for i, other := range []api.Patch{
		{}, PatchOf(), PatchOf(HunkOf(1, 2, "-x\n", "+")), PatchOf(HunkOf(1, 2, "-x\n", "+"), HunkOf(-3, 1)), PatchOf(HunkOf(1, 2, "-x\n", "+"), HunkOf(3, 0)), PatchOf(HunkOf(1, 2, "-x\n", "-"), HunkOf(-3, 0)), PatchOf(HunkOf(1, 2, "-x", "+"), HunkOf(-3, 0)), PatchOf(HunkOf(1, 2, "-x\n"), HunkOf(-3, 0)), {OldName: "a", NewName: "a", Hunks: want.Hunks}, {OldName: "b", NewName: "b", Hunks: want.Hunks},
	} {
		if SamePatch(want, other) || SamePatch(other, want) {
			t.Errorf("SamePatch is true of patch %d, which is another one", i)
		}
	}
}

func TestMixedPatch(t *testing.T) {
	r := rand.New(rand.NewSource(13))
	found := map[string]bool{}
	for range 1000 {
		for _, h := range MixedPatch(r.Intn).Hunks {
			for _, line := range h.Lines {
				found[string(line.Kind)+line.Text] = true
				if line.Text == "" {
					t.Error("a mixed patch has a line without bytes")
				}
			}
		}
	}
	for _, kind := range " -+" {
		for i := range "abc\n" {
			for _, line := range []string{"abc\n"[i:], "abc"[min(i, 2):]} {
				if !found[string(kind)+line] {
					t.Errorf("no mixed patch has the line %q of the kind %q", line, kind)
				}
			}
		}
	}
}
