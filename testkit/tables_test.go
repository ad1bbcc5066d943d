package testkit

import (
	"math/rand"
	"slices"
	"strings"
	"testing"

	"mergelens/api"
)

func TestTableOf(t *testing.T) {
	want := api.Table{Parents: 3, Rows: []api.Row{{Text: "a\n"}, {Lost: true, Marks: 5, Text: "-b"}, {Marks: 4, Text: " c\n"}, {Marks: 7}}}
	got := TableOf(3, "   a\n", "- --b", "  + c\n", "+++")
	if !slices.Equal(got.Rows, want.Rows) || got.Parents != 3 || !SameTable(got, want) {
		t.Errorf("TableOf = %v, want %v", got, want)
	}
	last := strings.Repeat(" ", 31)
	if got := RowOf(32, last+"-x"); got != (api.Row{Lost: true, Marks: 1 << 31, Text: "x"}) {
		t.Errorf("the row of the last parent is %v", got)
	}
	for i, other := range []api.Table{{}, TableOf(3), TableOf(2, "  a\n"), TableOf(3, "   a\n", "- --b", "  + c\n"), TableOf(3, "   a\n", "- --b", "  - c\n", "+++"), TableOf(3, "   a\n", "- --b", "  +c\n", "+++"), TableOf(3, "   a\n", "---b", "  + c\n", "+++"), {Parents: 4, Rows: want.Rows}} {
		if SameTable(want, other) || SameTable(other, want) {
			t.Errorf("SameTable is true of table %d, which is another one", i)
		}
	}
}

func TestCloneTable(t *testing.T) {
	table := TableOf(2, "  a\n", "- b\n")
	clone := CloneTable(table)
	if !SameTable(table, clone) {
		t.Errorf("CloneTable(%v) = %v", table, clone)
	}
	Spoil(clone.Rows, api.Row{Text: "z"})
	if want := TableOf(2, "  a\n", "- b\n"); !SameTable(table, want) {
		t.Errorf("a change of the clone changes the table to %v", table)
	}
}

func TestIsMarked(t *testing.T) {
	r := api.Row{Marks: 1<<31 + 6}
	var got []int
	for p := -70; p <= 70; p++ {
		if IsMarked(r, p) {
			got = append(got, p)
		}
	}
	if !slices.Equal(got, []int{1, 2, 31}) {
		t.Errorf("the marks are %v", got)
	}
}

func TestColumnOf(t *testing.T) {
	table := TableOf(2, "  a\n", "- b\n", "--c\n", " +d\n", "++e")
	for column, want := range map[int]string{-1: "a\nd\ne", 0: "a\nb\nc\nd\n", 1: "a\nc\n", -2: ""} {
		if got := strings.Join(ColumnOf(table, column), ""); got != want {
			t.Errorf("column %d has the lines %q, want %q", column, got, want)
		}
	}
	if got := ColumnOf(table, 1); !slices.Equal(got, []string{"a\n", "c\n"}) {
		t.Errorf("column 1 is %q", got)
	}
}

// TestMixedMerge checks that parents differ from the result, and that some of them are equal.
func TestMixedMerge(t *testing.T) {
	r := rand.New(rand.NewSource(16))
	equal, different, unended := 0, 0, 0
	for k := range 1000 {
		result, parents := MixedMerge(k%5, r.Intn)
		if len(parents) != k%5 {
			t.Fatalf("there are %d parents, not %d", len(parents), k%5)
		}
		for p, parent := range parents {
			if slices.Contains(parents[:p], parent) {
				equal++
			}
			if parent != result {
				different++
			}
			if !strings.HasSuffix(parent, "\n") {
				unended++
			}
		}
	}
	if equal < 100 || different < 1000 || unended < 500 || unended > 1500 {
		t.Errorf("of 2000 parents, %d are like another one, %d differ from the result, and %d have no line feed at their ends", equal, different, unended)
	}
}

// TestSpoilTable checks that there are several changes.
func TestSpoilTable(t *testing.T) {
	r := rand.New(rand.NewSource(16))
	table := TableOf(2, "  a\n", "- b\n", " +c")
	var found []api.Table
	for range 1000 {
		other := CloneTable(table)
		SpoilTable(other, r.Intn)
		if !slices.ContainsFunc(found, func(u api.Table) bool { return SameTable(u, other) }) {
			found = append(found, other)
		}
		if other.Parents != 2 || len(other.Rows) != 3 {
			t.Errorf("SpoilTable makes %v of %v", other, table)
		}
	}
	if len(found) < 30 {
		t.Errorf("SpoilTable makes only %d tables of one", len(found))
	}
	empty := TableOf(1)
	SpoilTable(empty, r.Intn)
	if !SameTable(empty, TableOf(1)) {
		t.Errorf("SpoilTable makes %v of a table without rows", empty)
	}
}

func TestAddTable(t *testing.T) {
	var list Answers
	list.AddTable(TableOf(2, " -a", "+ b\n"), api.OK)
	list.AddTable(api.Table{}, api.ErrArg)
	if !slices.Equal(list, []string{"0", "2", "2", "-1", "2", "a", "1", "b\n", "2", "0", "0"}) {
		t.Errorf("the answers are %q", list)
	}
}
