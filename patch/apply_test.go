package patch

import (
	"math/rand"
	"slices"
	"strings"
	"testing"

	"mergelens/api"
	"mergelens/testkit"
	"mergelens/unified"
)

// TestApply checks results that are written out. No result means ErrApply.
func TestApply(t *testing.T) {
	const none = "no result"
	for _, x := range []struct {
		blob   string
		hunks  []api.PatchHunk
		result string
		fits   int
	}{
		{"", nil, "", 0}, {"a\nb", nil, "a\nb", 0},
		// The example of the chapter.
		{"a\nb", []api.PatchHunk{hunkOf(0, 0, " a\n", "-b", "+c\n")}, "a\nc\n", 1}, {"a\nb\n", []api.PatchHunk{hunkOf(0, 0, " a\n", "-b", "+c\n")}, none, 0},
		// Added, removed and replaced lines, at both ends and between.
		{"", []api.PatchHunk{hunkOf(0, 0, "+a\n", "+b")}, "a\nb", 1}, {"a\nb", []api.PatchHunk{hunkOf(0, 0, "-a\n", "-b")}, "", 1}, {"a\nb\n", []api.PatchHunk{hunkOf(0, 0, "+x\n")}, "x\na\nb\n", 1}, {"a\nb\n", []api.PatchHunk{hunkOf(1, 1, "+x\n")}, "a\nx\nb\n", 1}, {"a\nb\n", []api.PatchHunk{hunkOf(2, 2, "+x")}, "a\nb\nx", 1}, {"a\nb\nc\n", []api.PatchHunk{hunkOf(1, 1, "-b\n")}, "a\nc\n", 1}, {"a\nb\nc\n", []api.PatchHunk{hunkOf(0, 0, " a\n", "+x\n", "-b\n", "+y\n", " c\n")}, "a\nx\ny\nc\n", 1}, {"a\nb\n", []api.PatchHunk{hunkOf(1, 1, "+x\n", " b\n")}, "a\nx\nb\n", 1}, {"a\n", []api.PatchHunk{hunkOf(0, 0, "-a\n", "+a\n")}, "a\n", 1}, {"\n\n", []api.PatchHunk{hunkOf(1, 1, "-\n")}, "\n", 1},
		// All positions are those in the given blob.
		{"a\nb\nc\nd\n", []api.PatchHunk{hunkOf(0, 0, "+x\n", "+y\n"), hunkOf(1, 3, "-b\n"), hunkOf(4, 5, "+z\n")}, "x\ny\na\nc\nd\nz\n", 3}, {"a\na\na\na\n", []api.PatchHunk{hunkOf(0, 0, "-a\n", "-a\n"), hunkOf(2, 0, "-a\n", "+b\n")}, "b\na\n", 2}, {"a\n", []api.PatchHunk{hunkOf(0, 0, "+x\n"), hunkOf(0, 1, "+y\n"), hunkOf(0, 2, "-a\n"), hunkOf(1, 2, "+z")}, "x\ny\nz", 4},
		{"a\nb\nc\nd\n", []api.PatchHunk{hunkOf(0, 0, "+x\n", "+y\n"), hunkOf(3, 5, "-b\n")}, none, 1}, {"b\n", []api.PatchHunk{hunkOf(0, 0, "+a\n"), hunkOf(1, 2, "-b\n")}, none, 1}, {"b\n", []api.PatchHunk{hunkOf(0, 0, "+a\n"), hunkOf(0, 1, "-a\n")}, none, 1},
		// Old lines that are not there exactly.
		{"a\nb\n", []api.PatchHunk{hunkOf(0, 0, "-b\n")}, none, 0}, {"a\nb\n", []api.PatchHunk{hunkOf(1, 1, "-a\n")}, none, 0}, {"a\nb\n", []api.PatchHunk{hunkOf(0, 0, "-a\n", "-b")}, none, 0}, {"a\nb", []api.PatchHunk{hunkOf(0, 0, "-a\n", "-b\n")}, none, 0}, {"a\nb\n", []api.PatchHunk{hunkOf(0, 0, "-a\n", " c\n")}, none, 0}, {"a\nb\n", []api.PatchHunk{hunkOf(0, 0, " a\n", "+x\n", " a\n")}, none, 0}, {"ab\n", []api.PatchHunk{hunkOf(0, 0, "-a")}, none, 0}, {"a\n", []api.PatchHunk{hunkOf(0, 0, "-ab\n")}, none, 0}, {"a\n", []api.PatchHunk{hunkOf(0, 0, "-A\n")}, none, 0}, {"a\r\n", []api.PatchHunk{hunkOf(0, 0, "-a\n")}, none, 0}, {"\xff\n", []api.PatchHunk{hunkOf(0, 0, "-\xfe\n")}, none, 0}, {" a\n", []api.PatchHunk{hunkOf(0, 0, "-a\n")}, none, 0},
		// A blob that is too short.
		{"", []api.PatchHunk{hunkOf(0, 0, "-a")}, none, 0}, {"", []api.PatchHunk{hunkOf(0, 0, "-\n")}, none, 0}, {"a\n", []api.PatchHunk{hunkOf(0, 0, "-a\n", "-a\n")}, none, 0}, {"a\n", []api.PatchHunk{hunkOf(0, 0, "-a\n", "-a")}, none, 0}, {"a\n", []api.PatchHunk{hunkOf(1, 1, "-a\n")}, none, 0}, {"a\n", []api.PatchHunk{hunkOf(2, 2, "+a\n")}, none, 0}, {"", []api.PatchHunk{hunkOf(1, 1, "+a\n")}, none, 0}, {"a\n", []api.PatchHunk{hunkOf(api.MaxLines-1, api.MaxLines-1, "-a\n")}, none, 0}, {"a\nb\n", []api.PatchHunk{hunkOf(1, 1, "+x\n"), hunkOf(3, 4, "+y\n")}, none, 1},
		// Hunks that fit, but make no list of lines.
		{"a", []api.PatchHunk{hunkOf(1, 1, "+b\n")}, none, 1}, {"a", []api.PatchHunk{hunkOf(1, 1, "+b")}, none, 1}, {"a", []api.PatchHunk{hunkOf(0, 0, "+b")}, none, 1}, {"a\n", []api.PatchHunk{hunkOf(0, 0, "+b")}, none, 1}, {"a\nb\n", []api.PatchHunk{hunkOf(0, 0, "-a\n", "+a")}, none, 1}, {"a\nb\nc", []api.PatchHunk{hunkOf(0, 0, "+x\n"), hunkOf(3, 4, "+y\n")}, none, 2},
		// Hunks that make a list of lines, though the blob has a line without line feed, or a hunk adds one.
		{"a", []api.PatchHunk{hunkOf(0, 0, "+b\n")}, "b\na", 1}, {"a", []api.PatchHunk{hunkOf(0, 0, "-a", "+a\n", "+b")}, "a\nb", 1}, {"a\nb", []api.PatchHunk{hunkOf(0, 0, " a\n", "+c\n", " b")}, "a\nc\nb", 1}, {"a\n", []api.PatchHunk{hunkOf(0, 0, "+b", "-a\n")}, "b", 1}, {"a\nb\n", []api.PatchHunk{hunkOf(0, 0, "-a\n", "+c"), hunkOf(1, 1, "-b\n")}, "c", 2}, {"a\nb", []api.PatchHunk{hunkOf(0, 0, "-a\n", "+b"), hunkOf(1, 1, "-b")}, "b", 2}, {"a\n", []api.PatchHunk{hunkOf(1, 1, "+b")}, "a\nb", 1},
		// The first hunks that fit, though later ones fit as well.
		{"a\nb\nc\n", []api.PatchHunk{hunkOf(0, 0, "-a\n"), hunkOf(1, 0, "-x\n"), hunkOf(2, 0, "-c\n")}, none, 1}, {"a\nb\nc\n", []api.PatchHunk{hunkOf(0, 0, "-x\n"), hunkOf(1, 0, "-b\n"), hunkOf(2, 0, "-c\n")}, none, 0}, {"a\nb\nc\n", []api.PatchHunk{hunkOf(0, 0, "-a\n"), hunkOf(1, 0, "-b\n"), hunkOf(2, 0, "-x\n")}, none, 2}, {"a\nb\nc\n", []api.PatchHunk{hunkOf(0, 0, "-a\n"), hunkOf(1, 0, "-b\n"), hunkOf(2, 0, "-c\n")}, "", 3},
		// The bytes of lines count, also if they look like parts of a written form.
		{"@@ -1 +1 @@\n--- a\n\x00\xff\r\n\\ No newline at end of file", []api.PatchHunk{hunkOf(0, 0, " @@ -1 +1 @@\n", "---- a\n", "++++ b\n", " \x00\xff\r\n", "-\\ No newline at end of file", "+\u00e9")}, "@@ -1 +1 @@\n+++ b\n\x00\xff\r\n\u00e9", 1},
	} {
		p := patchOf(x.hunks...)
		got, e := compare(t, p, x.blob)
		result, want := x.result, api.OK
		if x.result == none {
			result, want = "", api.ErrApply
		}
		if got != result || e != want {
			t.Errorf("P14.1: Apply(%v, %q) = %q, %d, want %q, %d", p, x.blob, got, e, result, want)
		}
		if n, e := Fits(p, x.blob); n != x.fits || e != api.OK {
			t.Errorf("P14.3: Fits(%v, %q) = %d, %d, want %d", p, x.blob, n, e, x.fits)
		}
	}
}

// TestAllHunks compares all functions with their definitions for all hunks of up to two lines and all short blobs.
func TestAllHunks(t *testing.T) {
	var lines []string
	for _, kind := range " -+" {
		for _, line := range []string{"a\n", "b\n", "\n", "a", "ab"} {
			lines = append(lines, string(kind)+line)
		}
	}
	testkit.EachList(lines, 2, func(list []string) {
		for at := range 4 {
			p := patchOf(hunkOf(at, at, list...))
			if compareReverse(t, p) == api.OK {
				testkit.Texts("ab\n", 5, func(blob string) { compare(t, p, blob) })
			}
		}
	})
}

// TestAllPatches compares all functions with their definitions for all pairs of small hunks and all short blobs of one letter.
func TestAllPatches(t *testing.T) {
	var lists [][]string
	testkit.EachList([]string{" a\n", "-a\n", "+a\n", " a", "-a", "+a"}, 2, func(list []string) { lists = append(lists, list) })
	results := map[api.Errno]int{}
	for _, first := range lists {
		for _, second := range lists {
			for at := range 4 {
				x := hunkOf(at/2, at/2, first...)
				gap := at % 2
				p := patchOf(x, hunkOf(x.Old+len(testkit.SideOf(x, '-'))+gap, x.New+len(testkit.SideOf(x, '+'))+gap, second...))
				if compareReverse(t, p) != api.OK {
					continue
				}
				testkit.Texts("a\n", 6, func(blob string) {
					_, e := compare(t, p, blob)
					results[e]++
				})
			}
		}
	}
	if results[api.OK] < 1000 || results[api.ErrApply] < 1000 || len(results) != 2 {
		t.Errorf("the patches have these results: %v", results)
	}
}

// TestAllBlobs checks, for all pairs of short blobs and all contexts, that the patch of unified.Make makes the second one of the first one; and applies it to other blobs.
func TestAllBlobs(t *testing.T) {
	testkit.Texts("ab\n", 5, func(a string) {
		testkit.Texts("ab\n", 4, func(b string) {
			for context := range 4 {
				p := made(a, b, context)
				if got, e := compare(t, p, a); e != api.OK || got != b {
					t.Fatalf("P14.4: Apply(%v, %q) = %q, %d, want %q", p, a, got, e, b)
				}
				for _, other := range []string{"", "a\n" + a, a + "\n", a + "b", b, strings.TrimSuffix(a, "\n")} {
					compare(t, p, other)
				}
			}
		})
	})
}

// TestMixedBlobs checks the same for longer blobs.
func TestMixedBlobs(t *testing.T) {
	r := rand.New(rand.NewSource(14))
	for range 3000 {
		a, b := testkit.MixedBlobs(r.Intn)
		for _, context := range []int{0, 1 + r.Intn(5), api.MaxContext} {
			p := made(a, b, context)
			if got, e := compare(t, p, a); e != api.OK || got != b {
				t.Fatalf("P14.4: Apply(%.200v, %.40q) = %.40q, %d, want %.40q", p, a, got, e, b)
			}
			compare(t, p, b)
			compare(t, p, spoiltBlob(a, r.Intn))
			compareReverse(t, p)
		}
	}
}

// spoiltBlob returns a blob with a small change somewhere. The function intn returns any number from 0 to n - 1.
func spoiltBlob(blob string, intn func(n int) int) string {
	lines := linesOf(blob)
	if len(lines) == 0 {
		return "a"
	}
	k := intn(len(lines))
	switch intn(4) {
	case 0:
		lines = slices.Delete(lines, k, k+1)
	case 1:
		lines = slices.Insert(lines, k, lines[intn(len(lines))])
	case 2:
		lines[k] = "z" + lines[k]
	case 3:
		lines = lines[:k]
	}
	return strings.Join(lines, "")
}

// baseOf returns a blob with the old lines of a patch, and with other lines between them and at the end.
func baseOf(p api.Patch, intn func(n int) int) string {
	var lines []string
	for _, h := range p.Hunks {
		for len(lines) < h.Old {
			lines = append(lines, "gap\n"[intn(4):])
		}
		lines = append(lines, testkit.SideOf(h, '-')...)
	}
	blob := strings.Join(lines, "")
	return blob + []string{"", "", "end", "end\n", "the\nend\n"}[intn(5)]
}

// TestMixedPatches compares all functions with their definitions for longer patches, also with small mistakes.
func TestMixedPatches(t *testing.T) {
	r := rand.New(rand.NewSource(14))
	results := map[api.Errno]int{}
	for range 20000 {
		p := testkit.MixedPatch(r.Intn)
		blob := baseOf(p, r.Intn)
		_, e := compare(t, p, blob)
		results[e]++
		compare(t, p, spoiltBlob(blob, r.Intn))
		compareReverse(t, p)
		testkit.SpoilPatch(p, r.Intn)
		compare(t, p, blob)
		compareReverse(t, p)
	}
	if results[api.OK] < 5000 || results[api.ErrApply] < 1000 {
		t.Errorf("the patches have these results: %v", results)
	}
}

// TestContexts checks that a context as large as it may be, and the direction of the changes, do not matter.
func TestContexts(t *testing.T) {
	const a, b = "1\n2\n3\n3\n3\n4\n5\n6\n7\n8\n9", "0\n2\n3\n3\n4\n5\n6\n6\n7\n9\n9\n"
	for _, context := range []int{0, 1, 2, 3, 10, api.MaxContext - 1, api.MaxContext} {
		for _, down := range []bool{false, true} {
			p, e := unified.Make("a", "b", a, b, context, down)
			if got, f := compare(t, p, a); e != api.OK || f != api.OK || got != b {
				t.Errorf("P14.4: Apply(%v) = %q, %d", p, got, f)
			}
		}
	}
}
