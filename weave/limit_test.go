package weave

import (
	"slices"
	"strconv"
	"strings"
	"testing"

	"mergelens/api"
	"mergelens/testkit"
)

// most is the greatest number of lines of a blob.
const most = api.MaxLines

// numbered returns a blob of so many different lines.
func numbered(from, lines int) string {
	var b strings.Builder
	for i := range lines {
		b.WriteString(strconv.Itoa(from+i) + "\n")
	}
	return b.String()
}

// has checks the error of Make, and the number of rows if there is none.
func has(t *testing.T, name, result string, parents []string, e api.Errno, rows int) {
	t.Helper()
	if table, f := compare(t, result, parents); f != e || e == api.OK && len(table.Rows) != rows {
		t.Errorf("P16.1: Make of %s has %d rows and the error %d, want %d rows and the error %d", name, len(table.Rows), f, rows, e)
	}
}

// TestNumbersOfParents checks the limits of the number of parents, whose error comes before those of the blobs.
func TestNumbersOfParents(t *testing.T) {
	for _, blob := range []string{"", "a\n", strings.Repeat("\n", most+1), strings.Repeat("x", api.MaxBlob+1)} {
		e := api.OK
		if len(blob) > api.MaxBlob || strings.Count(blob, "\n") > most {
			e = api.ErrLimit
		}
		for parents := 1; parents <= api.MaxParents; parents++ {
			has(t, "equal blobs", blob, slices.Repeat([]string{blob}, parents), e, len(blob)/2)
		}
		for _, parents := range []int{0, api.MaxParents + 1, 64, 65, 256, 257, 1 << 16} {
			has(t, "a wrong number of parents", blob, slices.Repeat([]string{blob}, parents), api.ErrArg, 0)
			has(t, "a wrong number of empty parents", blob, make([]string, parents), api.ErrArg, 0)
		}
	}
}

// TestBlobLimits checks the limits of the result and of each parent, also of those that are equal.
func TestBlobLimits(t *testing.T) {
	full, wide := strings.Repeat("\n", most), strings.Repeat("x", api.MaxBlob-2)+"\nx"
	has(t, "as many lines as a blob may have", full, []string{"", full}, api.OK, most)
	has(t, "as many bytes as a blob may have", wide, []string{"", wide}, api.OK, 2)
	has(t, "other lines", numbered(0, most), []string{numbered(most, most), numbered(2*most, most)}, api.OK, 3*most)
	for _, long := range []string{full + "\n", full + "x", wide + "x", wide + "\n", strings.Repeat("x", api.MaxText)} {
		has(t, "a result that is too long", long, []string{""}, api.ErrLimit, 0)
		has(t, "a result and a parent that are too long", long, []string{long}, api.ErrLimit, 0)
		has(t, "a parent that is too long", "", []string{long}, api.ErrLimit, 0)
		for _, parents := range []int{2, 3, 7, 32} {
			for p := range parents {
				blobs := make([]string, parents)
				blobs[p] = long
				has(t, "one parent that is too long", "a\n", blobs, api.ErrLimit, 0)
			}
		}
	}
}

// TestGapLimit checks the limit of the merged lines of a gap, which matters only if one more parent follows, though it lost nothing there.
func TestGapLimit(t *testing.T) {
	const half = most / 2
	for _, x := range []struct {
		name    string
		result  string
		parents []string
		e       api.Errno
		rows    int
	}{
		{"one parent", "", []string{numbered(0, most)}, api.OK, most},
		{"two parents with as many lines as possible", "", []string{numbered(0, most), numbered(most, most)}, api.OK, 2 * most},
		{"a third parent after as many lines as possible", "", []string{numbered(0, half), numbered(half, half), numbered(most, most)}, api.OK, 2 * most},
		{"a third parent after one line more", "", []string{numbered(0, half), numbered(half, half+1), numbered(most, 5)}, api.ErrLimit, 0},
		{"a third parent without lines after one line more", "", []string{numbered(0, half), numbered(half, half+1), ""}, api.ErrLimit, 0},
		{"a third parent that has the lines of the result after one line more", "x\n", []string{"x\n" + numbered(0, half), "x\n" + numbered(half, half+1), "x\n"}, api.ErrLimit, 0},
		{"a third parent before two others", "x\n", []string{"x\n", "x\n" + numbered(0, half), "x\n" + numbered(half, half+1)}, api.OK, most + 2},
		{"a third parent after equal lines", "", []string{numbered(0, most), numbered(0, most), numbered(most, 1)}, api.OK, most + 1},
		{"a fourth parent after one line more", "", []string{numbered(0, most), numbered(0, most), numbered(most, 1), ""}, api.ErrLimit, 0},
		{"many lines before the first line", "x\n", []string{numbered(0, half) + "x\n", numbered(half, half+1) + "x\n", "x\n"}, api.ErrLimit, 0},
		{"many lines between two lines", "x\ny\n", []string{"x\n" + numbered(0, half) + "y\n", "x\n" + numbered(half, half+1) + "y\n", "x\ny\n"}, api.ErrLimit, 0},
		{"many lines instead of others", "x\n", []string{numbered(0, half), numbered(half, half+1), "y\n"}, api.ErrLimit, 0},
		{"many lines in different gaps", "x\n", []string{"x\n" + numbered(0, most-1), numbered(most, most-1) + "x\n", "x\n"}, api.OK, 2*most - 1},
		{"many lines of a parent in different gaps", "x\n", []string{numbered(0, half) + "x\n" + numbered(most, half-1), numbered(half, half) + "x\n" + numbered(most+half, half-1), ""}, api.OK, 2*most - 1},
	} {
		has(t, x.name, x.result, x.parents, x.e, x.rows)
	}
}

// TestLargestTable compares the functions with their definitions for the most parents with many lines in many gaps.
func TestLargestTable(t *testing.T) {
	const gaps = 64
	parents := make([]string, api.MaxParents)
	for p := range parents {
		var b strings.Builder
		for k := range gaps {
			b.WriteString("=" + strconv.Itoa(k) + "\n" + numbered(100000*p+1000*k, most/gaps-1))
		}
		parents[p] = b.String()
	}
	var b strings.Builder
	for k := range gaps {
		b.WriteString("=" + strconv.Itoa(k) + "\n")
	}
	has(t, "many lines in many gaps", b.String(), parents, api.OK, gaps+api.MaxParents*(most-gaps))
}

// TestManyGaps compares the functions with their definitions for parents that each lack some lines of a result and have others.
func TestManyGaps(t *testing.T) {
	result := numbered(0, most)
	parents := make([]string, api.MaxParents)
	for p := range parents {
		lines := linesOf(result)
		for i := p; i < most; i += 2 + p {
			lines[i] = "x" + strconv.Itoa(i%3) + "\n"
		}
		parents[p] = strings.Join(lines, "")
	}
	if table, _ := compare(t, result, parents); len(table.Rows) < most*3/2 {
		t.Errorf("the table has only %d rows", len(table.Rows))
	}
	testkit.EachList([]string{result, parents[0], parents[31], "x0\n"}, 3, func(list []string) { compare(t, result, list) })
}
