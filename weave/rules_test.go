package weave

import (
	"math/rand"
	"slices"
	"testing"

	"mergelens/api"
	"mergelens/testkit"
)

// TestExtremeTables checks R1 and R3: Check and Visible return for any numbers and rows.
func TestExtremeTables(t *testing.T) {
	for _, parents := range extremes {
		for _, marks := range []uint32{0, 1, 1 << 31, 1<<32 - 1} {
			for _, text := range []string{"", "\n", "a", "a\nb"} {
				for _, isLost := range []bool{false, true} {
					r := api.Row{Lost: isLost, Marks: marks, Text: text}
					compareCheck(t, api.Table{Parents: parents, Rows: []api.Row{r}})
					compareCheck(t, api.Table{Parents: parents, Rows: []api.Row{r, r}})
				}
			}
		}
	}
}

// TestArgumentsStay checks that, as R4 says, the functions leave their arguments as they are, even behind their ends.
func TestArgumentsStay(t *testing.T) {
	parents := []string{"a\nb\n", "b\nc\n", "", "c\na\nb"}
	all := slices.Clone(parents)
	for n := range len(parents) + 1 {
		Make("a\nc\n", parents[:n])
	}
	if !slices.Equal(parents, all) {
		t.Errorf("R4: the parents are %q, not %q", parents, all)
	}
	for _, table := range []api.Table{tableOf(2, "  a\n", "- b\n", "+ c\n", "--d", "++e"), {Parents: 1, Rows: []api.Row{{Text: "a"}, {Text: ""}, {Marks: 9, Text: "a\nb"}}}} {
		want := testkit.CloneTable(table)
		for n := range len(table.Rows) + 1 {
			Check(api.Table{Parents: table.Parents, Rows: table.Rows[:n]})
		}
		for _, r := range table.Rows {
			Visible(r, 0)
		}
		if !testkit.SameTable(table, want) {
			t.Errorf("R4: the table is %v, not %v", table, want)
		}
	}
}

// TestNewLists checks R4: no table shares memory with a later result, not even beyond its length, or changes with the parents.
func TestNewLists(t *testing.T) {
	r := rand.New(rand.NewSource(16))
	for k := range 100 {
		result, parents := testkit.MixedMerge(1+k%5, r.Intn)
		want, _ := defined(result, parents)
		first, _ := Make(result, parents)
		second, _ := Make(result, parents)
		testkit.Spoil(first.Rows, api.Row{Lost: true, Marks: 1, Text: "?"})
		if third, _ := Make(result, parents); !testkit.SameTable(second, want) || !testkit.SameTable(third, want) {
			t.Fatalf("R4: the tables are %v and %v after a change of another one, want %v", second, third, want)
		}
		testkit.Spoil(parents, "?")
		if !testkit.SameTable(second, want) {
			t.Fatalf("R4: the table is %v after a change of the parents, want %v", second, want)
		}
	}
}

// answers collects the results of calls of all functions.
func answers() []string {
	r := rand.New(rand.NewSource(16))
	var list testkit.Answers
	for k := range 200 {
		table, e := Make(testkit.MixedMerge(k%35, r.Intn))
		list.AddTable(table, e)
		testkit.SpoilTable(table, r.Intn)
		list.Add(int(Check(table)))
		for column := -2; column < table.Parents; column++ {
			list = append(list, visible(table, column)...)
		}
	}
	return list
}

// TestSameResults checks R5: later calls and calls at the same time have the same results.
func TestSameResults(t *testing.T) {
	if !testkit.Same(answers) {
		t.Error("R5: other results of the same calls")
	}
}
