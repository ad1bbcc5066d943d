package weave

import (
	"math/rand"
	"slices"
	"strings"
	"testing"

	"mergelens/api"
	"mergelens/testkit"
)

// TestMake checks results that are written out. The number of parents is that of the blobs.
func TestMake(t *testing.T) {
	for _, x := range []struct {
		result  string
		parents []string
		rows    []string
	}{
		// The example of the chapter.
		{"a\nc\n", []string{"a\nb\n", "a\nc\n"}, []string{"  a\n", "- b\n", "+ c\n"}},
		// Empty blobs, and blobs that are equal.
		{"", []string{""}, nil}, {"", []string{"", "", ""}, nil}, {"a\n", []string{""}, []string{"+a\n"}}, {"", []string{"a\n"}, []string{"-a\n"}}, {"a\nb", []string{"", ""}, []string{"++a\n", "++b"}}, {"", []string{"", "a"}, []string{" -a"}}, {"a\nb", []string{"a\nb", "a\nb"}, []string{"  a\n", "  b"}}, {"a\n", []string{"", "a\n", ""}, []string{"+ +a\n"}},
		// In a gap, lost rows are before the line of the result.
		{"b\n", []string{"a\n"}, []string{"-a\n", "+b\n"}}, {"x\nb\ny\n", []string{"x\na\ny\n"}, []string{" x\n", "-a\n", "+b\n", " y\n"}}, {"1\n2\n", []string{"a\nb\n"}, []string{"-a\n", "-b\n", "+1\n", "+2\n"}}, {"b\na\n", []string{"a\nb\n"}, []string{"-a\n", " b\n", "+a\n"}}, {"b\nc\n", []string{"a\nb\nc\n", "b\nc\nd\n"}, []string{"- a\n", "  b\n", "  c\n", " -d\n"}},
		// The gap of a change is the one at the beginning of its added lines.
		{"1\n2\n3\n", []string{"1\nx\n3\n", "1\n2\ny\n3\n"}, []string{"  1\n", "- x\n", "+ 2\n", " -y\n", "  3\n"}}, {"1\n2\n3\n", []string{"x\n", "1\ny\n"}, []string{"- x\n", "+ 1\n", " -y\n", "++2\n", "++3\n"}}, {"1\n2\n", []string{"2\nx\n", "x\n1\n"}, []string{" -x\n", "+ 1\n", " +2\n", "- x\n"}},
		// Equal lines of one gap are one row, if a shortest script matches them.
		{"", []string{"a\n", "a\n"}, []string{"--a\n"}}, {"", []string{"a\nb\n", "b\nc\n"}, []string{"- a\n", "--b\n", " -c\n"}}, {"", []string{"a\nb\n", "b\na\n"}, []string{"- a\n", "--b\n", " -a\n"}}, {"", []string{"b\n", "a\n"}, []string{"- b\n", " -a\n"}}, {"", []string{"a\n", "", "a\n"}, []string{"- -a\n"}}, {"", []string{"a\nb\n", "c\n", "b\n"}, []string{"-  a\n", "- -b\n", " - c\n"}}, {"", []string{"a\n", "a\na\n"}, []string{"--a\n", " -a\n"}}, {"x\ny\n", []string{"x\na\nb\ny\n", "x\nb\ny\n", "x\na\ny\n"}, []string{"   x\n", "- -a\n", "-- b\n", "   y\n"}},
		// Equal lines of different gaps, or lost lines and lines of the result, are not.
		{"b\n", []string{"a\nb\n", "b\na\n"}, []string{"- a\n", "  b\n", " -a\n"}}, {"a\n", []string{"b\n", "a\nb\n"}, []string{"- b\n", "+ a\n", " -b\n"}}, {"a\n", []string{"a\na\n"}, []string{" a\n", "-a\n"}}, {"a\na\n", []string{"a\n", "a\na\na\n"}, []string{"  a\n", "+ a\n", " -a\n"}},
		// A line with a line feed is another one than without.
		{"a", []string{"a\n"}, []string{"-a\n", "+a"}}, {"a\nb", []string{"a\nb\n", "a\nb"}, []string{"  a\n", "- b\n", "+ b"}}, {"a\n", []string{"a", "a\n", "a"}, []string{"- -a", "+ +a\n"}}, {"", []string{"a\n", "a\nb", "a"}, []string{"-- a\n", " - b", "  -a"}}, {"b", []string{"a", "a\nb"}, []string{"- a", " -a\n", "+ b"}},
		// All bytes count.
		{"\x00\n", []string{"\n", "\x00\n"}, []string{"- \n", "+ \x00\n"}}, {"\xff\n", []string{"\xfe\n", "\xff\n"}, []string{"- \xfe\n", "+ \xff\n"}}, {"a\r\n", []string{"a\n", "a\rb\n"}, []string{"- a\n", " -a\rb\n", "++a\r\n"}}, {"A\n", []string{"a\n"}, []string{"-a\n", "+A\n"}}, {"-a\n+b\n", []string{"+b\n"}, []string{"+-a\n", " +b\n"}}, {"\u00e9", []string{"e\u0301"}, []string{"-e\u0301", "+\u00e9"}},
	} {
		want := tableOf(len(x.parents), x.rows...)
		if got, e := compare(t, x.result, x.parents); e != api.OK || !testkit.SameTable(got, want) {
			t.Errorf("P16.1: Make(%q, %q) = %v, %d, want %v", x.result, x.parents, got, e, want)
		}
	}
}

// TestAllMerges compares Make with its definition for all short blobs.
func TestAllMerges(t *testing.T) {
	for _, c := range []struct {
		parents, length int
		alphabet        string
	}{{1, 4, "ab\n"}, {2, 3, "ab\n"}, {3, 2, "a\n"}, {4, 1, "ab\n"}} {
		var blobs []string
		testkit.Texts(c.alphabet, c.length, func(s string) { blobs = append(blobs, s) })
		testkit.EachList(blobs, c.parents, func(parents []string) {
			for _, result := range blobs {
				compare(t, result, parents)
			}
		})
	}
}

// TestAllLines compares Make with its definition for all blobs of a few lines.
func TestAllLines(t *testing.T) {
	for _, c := range []struct{ parents, length int }{{1, 4}, {2, 3}, {3, 2}} {
		blobs := []string{"a", "b\nb"}
		testkit.Texts("abc", c.length, func(s string) {
			var b strings.Builder
			for _, line := range s {
				b.WriteString(string(line) + "\n")
			}
			blobs = append(blobs, b.String())
		})
		testkit.EachList(blobs, c.parents, func(parents []string) {
			for _, result := range blobs {
				compare(t, result, parents)
			}
		})
	}
}

// TestMixedMerges compares Make with its definition for longer blobs and all numbers of parents.
func TestMixedMerges(t *testing.T) {
	r := rand.New(rand.NewSource(16))
	rows, shared := 0, 0
	for k := range 3000 {
		result, parents := testkit.MixedMerge(1+k%api.MaxParents, r.Intn)
		table, e := compare(t, result, parents)
		if e != api.OK {
			t.Fatalf("P16.1: Make(%q, %q) has the error %d", result, parents, e)
		}
		for _, row := range table.Rows {
			rows++
			if row.Lost && row.Marks&(row.Marks-1) != 0 {
				shared++
			}
		}
	}
	if shared < rows/20 {
		t.Errorf("only %d of %d rows are lost lines of several parents", shared, rows)
	}
}

// TestEachParent checks the bit of each parent when it is the only one that differs.
func TestEachParent(t *testing.T) {
	bit := uint32(1)
	for p := range api.MaxParents {
		for parents := p + 1; parents <= api.MaxParents; parents++ {
			blobs := slices.Repeat([]string{"a\nc\n"}, parents)
			blobs[p] = "a\nb\n"
			want := api.Table{Parents: parents, Rows: []api.Row{{Text: "a\n"}, {Lost: true, Marks: bit, Text: "b\n"}, {Marks: bit, Text: "c\n"}}}
			if got, e := compare(t, "a\nc\n", blobs); e != api.OK || !testkit.SameTable(got, want) {
				t.Errorf("P16.1: of %d parents, only %d differs: Make = %v, %d", parents, p, got, e)
			}
		}
		bit *= 2
	}
}

// TestEqualParents checks that copies of a parent have the rows of one, with the marks of all.
func TestEqualParents(t *testing.T) {
	r := rand.New(rand.NewSource(4))
	for parents := 1; parents <= api.MaxParents; parents++ {
		result, single := testkit.MixedMerge(1, r.Intn)
		one, _ := compare(t, result, single)
		all, _ := compare(t, result, slices.Repeat(single, parents))
		for k := range one.Rows {
			if one.Rows[k].Marks == 1 {
				one.Rows[k].Marks = uint32(uint64(1)<<parents - 1)
			}
		}
		if !slices.Equal(all.Rows, one.Rows) {
			t.Errorf("P16.1: Make(%q, %d copies of %q) has the rows %v, want %v", result, parents, single[0], all.Rows, one.Rows)
		}
	}
}
