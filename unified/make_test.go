package unified

import (
	"math/rand"
	"strconv"
	"strings"
	"testing"

	"mergelens/api"
	"mergelens/testkit"
)

// TestMake checks results that are written out.
func TestMake(t *testing.T) {
	for _, x := range []struct {
		a, b    string
		context int
		down    bool
		want    []api.PatchHunk
	}{
		{"", "", 0, false, nil}, {"a\nb", "a\nb", 3, true, nil}, {"a\nb", "a\nc\n", 1, false, []api.PatchHunk{hunkOf(0, 0, " a\n", "-b", "+c\n")}}, {"a\nb", "a\nc\n", 0, true, []api.PatchHunk{hunkOf(1, 1, "-b", "+c\n")}}, {"a", "a\n", 7, false, []api.PatchHunk{hunkOf(0, 0, "-a", "+a\n")}}, {"", "x", 3, false, []api.PatchHunk{hunkOf(0, 0, "+x")}}, {"x\ny", "", 3, true, []api.PatchHunk{hunkOf(0, 0, "-x\n", "-y")}},
		// Added lines come after all removed lines of their change, and matched ones between changes of one hunk.
		{"1\n2\n3\n4\n", "5\n6\n3\n7\n", 0, false, []api.PatchHunk{hunkOf(0, 0, "-1\n", "-2\n", "+5\n", "+6\n"), hunkOf(3, 3, "-4\n", "+7\n")}}, {"1\n2\n3\n4\n", "5\n6\n3\n7\n", 1, false, []api.PatchHunk{hunkOf(0, 0, "-1\n", "-2\n", "+5\n", "+6\n", " 3\n", "-4\n", "+7\n")}},
		{"1\n2\n3\n4\n5\n6\n7\n8\n9\n", "2\n3\n4\n5\n6\n7\n8\n9\n0\n", 2, false, []api.PatchHunk{hunkOf(0, 0, "-1\n", " 2\n", " 3\n"), hunkOf(7, 6, " 8\n", " 9\n", "+0\n")}}, {"1\n2\n3\n4\n5\n6\n7\n8\n9\n", "2\n3\n4\n5\n6\n7\n8\n9\n0\n", 4, false, []api.PatchHunk{hunkOf(0, 0, "-1\n", " 2\n", " 3\n", " 4\n", " 5\n", " 6\n", " 7\n", " 8\n", " 9\n", "+0\n")}}, {"1\n2\n3\n4\n5\n", "1\n2\n4\n5\n", 1, false, []api.PatchHunk{hunkOf(1, 1, " 2\n", "-3\n", " 4\n")}}, {"1\n2\n3\n4\n5", "1\n2\n4\n5", api.MaxContext, false, []api.PatchHunk{hunkOf(0, 0, " 1\n", " 2\n", "-3\n", " 4\n", " 5")}},
		// Changes along equal lines are as far down as they can be.
		{"1\n2\n", "1\n1\n2\n", 0, false, []api.PatchHunk{hunkOf(1, 1, "+1\n")}}, {"1\n1\n1\n2\n", "1\n2\n", 0, false, []api.PatchHunk{hunkOf(1, 1, "-1\n", "-1\n")}}, {"2\n1\n1\n3\n", "2\n1\n3\n", 0, true, []api.PatchHunk{hunkOf(2, 2, "-1\n")}}, {"2\n1\n1\n3\n", "2\n1\n3\n", 1, true, []api.PatchHunk{hunkOf(1, 1, " 1\n", "-1\n", " 3\n")}}, {"{\n}\n", "{\n}\n{\n}\n", 0, false, []api.PatchHunk{hunkOf(2, 2, "+{\n", "+}\n")}},
		// The bytes of lines count.
		{"a\r\n\x00\xff", "a\n\x00\xff", 1, false, []api.PatchHunk{hunkOf(0, 0, "-a\r\n", "+a\n", " \x00\xff")}}, {"-a\n", "+a\n", 0, false, []api.PatchHunk{hunkOf(0, 0, "--a\n", "++a\n")}},
	} {
		want := patchOf(x.want...)
		if p, e := Make("a", "b", x.a, x.b, x.context, x.down); e != api.OK || !testkit.SamePatch(p, want) {
			t.Errorf("P12.2: Make(%q, %q, %d, %v) = %v, %d, want %v", x.a, x.b, x.context, x.down, p, e, want)
		}
		compareMake(t, x.a, x.b, x.context, x.down)
	}
}

// TestDown compares the patches whose changes are moved down with those whose changes are not: they are equal, since the shortest script matches lines as early as possible, so that none of its changes can be moved down.
func TestDown(t *testing.T) {
	testkit.Texts("ab", 6, func(x string) {
		testkit.Texts("ab", 6, func(y string) {
			a, b := lines(x), lines(y)
			if stay, down := compareMake(t, a, b, 0, false), compareMake(t, a, b, 0, true); !testkit.SamePatch(stay, down) {
				t.Fatalf("P12.2: Make(%q, %q) moves %v down to %v", a, b, stay, down)
			}
		})
	})
}

// lines returns a blob with a line for each byte of a string.
func lines(s string) string {
	var blob strings.Builder
	for i := range len(s) {
		blob.WriteString(s[i:i+1] + "\n")
	}
	return blob.String()
}

// TestAllBlobs compares Make with its definition for all short blobs.
func TestAllBlobs(t *testing.T) {
	testkit.Texts("ab\n", 5, func(a string) {
		testkit.Texts("ab\n", 4, func(b string) {
			for context := range 4 {
				compareMake(t, a, b, context, context%2 == 0)
			}
			compareMake(t, b, a, 1, true)
		})
	})
}

// TestMixedBlobs compares Make with its definition for longer blobs.
func TestMixedBlobs(t *testing.T) {
	r := rand.New(rand.NewSource(12))
	several := 0
	for range 3000 {
		a, b := testkit.MixedBlobs(r.Intn)
		for _, context := range []int{0, 1 + r.Intn(5), api.MaxContext} {
			if p := compareMake(t, a, b, context, r.Intn(2) == 0); len(p.Hunks) > 2 && context > 0 {
				several++
			}
		}
	}
	if several < 300 {
		t.Errorf("only %d patches have several hunks", several)
	}
}

// TestNamesOfMake checks that the names are those of the patch, without quotes.
func TestNamesOfMake(t *testing.T) {
	for _, old := range []string{"a", "a b", "\"", "\n\xff", strings.Repeat("\x00", api.MaxPath)} {
		for _, now := range []string{"a", "x/y", "\\", " ", strings.Repeat("n", api.MaxPath)} {
			for _, b := range []string{"a\n", "b\n"} {
				p, e := Make(old, now, "a\n", b, 3, false)
				if e != api.OK || p.OldName != old || p.NewName != now || len(p.Hunks) == 0 != (b == "a\n") {
					t.Errorf("P12.2: Make(%q, %q) = %v, %d", old, now, p, e)
				}
				compareForm(t, p)
			}
		}
	}
}

// TestErrorsOfMake checks the errors of Make and their order: that of all combinations of arguments.
func TestErrorsOfMake(t *testing.T) {
	const most = api.MaxLines
	long, wide := strings.Repeat("\n", most), strings.Repeat("x", api.MaxBlob)
	blobs := []struct {
		s  string
		ok bool
	}{{"a\n", true}, {long, true}, {wide, true}, {long + "x", false}, {wide + "x", false}, {long + "\n", false}}
	names := []struct {
		s  string
		ok bool
	}{{"n", true}, {strings.Repeat("\xff", api.MaxPath), true}, {"", false}, {strings.Repeat("n", api.MaxPath+1), false}}
	contexts := append([]int{api.MaxContext - 1, api.MaxContext, api.MaxContext + 1}, extremes...)
	for _, old := range names {
		for _, now := range names {
			for _, a := range blobs {
				for _, b := range blobs {
					for _, context := range contexts {
						want := api.OK
						switch {
						case !old.ok || !now.ok:
							want = api.ErrName
						case !a.ok || !b.ok:
							want = api.ErrLimit
						case context < 0 || context > api.MaxContext:
							want = api.ErrRange
						}
						p, e := Make(old.s, now.s, a.s, b.s, context, context%2 == 0)
						if e != want || e != api.OK && !testkit.SamePatch(p, api.Patch{}) {
							t.Errorf("P12.2: Make(%.9q, %.9q, %.9q, %.9q, %d) = %.40v, %d, want the error %d", old.s, now.s, a.s, b.s, context, p, e, want)
						}
					}
				}
			}
		}
	}
}

// numberedLines returns a blob with as many lines as possible, which are all different, and as many bytes as possible.
func numberedLines(first int) string {
	var blob strings.Builder
	for k := range api.MaxLines {
		blob.WriteString(strconv.Itoa(first+k) + "\n")
	}
	return strings.Repeat("x", api.MaxBlob-blob.Len()) + blob.String()
}

// TestLargestBlobs checks blobs of as many bytes and lines as possible. The longest written form is far from too long.
func TestLargestBlobs(t *testing.T) {
	const most = api.MaxLines
	a, b := numberedLines(most), numberedLines(3*most)
	p := compareMake(t, a, b, 3, true)
	if minus, plus := Count(p); len(p.Hunks) != 1 || minus != most || plus != most {
		t.Errorf("P12.2: the longest patch has %d hunks with %d and %d lines", len(p.Hunks), minus, plus)
	}
	if s, _ := Format(p); len(s) < 2*api.MaxBlob || len(s) > api.MaxText {
		t.Errorf("P12.2: the longest written form has %d bytes", len(s))
	}
	compareMake(t, a, "", 3, false)
	compareMake(t, "", a, api.MaxContext, true)
	compareMake(t, a, a, 0, true)
	compareMake(t, a, strings.Replace(a, "7", "8", 1000), 0, false)
	compareMake(t, strings.Repeat("\n", most), strings.Repeat("\n", most-1), 0, true)
	compareMake(t, strings.Repeat("a\nb\n", most/2), strings.Repeat("b\na\n", most/2), 1, true)
	every := strings.Repeat("a\nb\n", most/2) // of its lines, every other one is removed
	if p := compareMake(t, every, strings.Repeat("a\n", most/2), 0, false); len(p.Hunks) != most/2 {
		t.Errorf("P12.2: a patch of %d changes has %d hunks", most/2, len(p.Hunks))
	}
	if p := compareMake(t, every, strings.Repeat("a\n", most/2), 1, true); len(p.Hunks) != 1 {
		t.Errorf("P12.2: a patch of %d changes with a line of context has %d hunks", most/2, len(p.Hunks))
	}
}
