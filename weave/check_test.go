package weave

import (
	"math"
	"math/rand"
	"slices"
	"strings"
	"testing"

	"mergelens/api"
	"mergelens/testkit"
)

// extremes lists numbers in and far out of the range of parents.
var extremes = []int{math.MinInt, math.MinInt + 1, -1 << 32, -256, -33, -32, -2, -1, 0, 1, 2, 30, 31, 32, 33, 63, 64, 65, 255, 256, 1 << 31, 1 << 32, 1<<32 + 1, math.MaxInt - 1, math.MaxInt}

// TestCheck checks tables whose errors are written out.
func TestCheck(t *testing.T) {
	const ok, marks, form = api.OK, api.ErrMarks, api.ErrForm
	lostRow := func(text string, marks uint32) api.Row { return api.Row{Lost: true, Marks: marks, Text: text} }
	row := func(text string, marks uint32) api.Row { return api.Row{Marks: marks, Text: text} }
	for _, x := range []struct {
		t    api.Table
		want api.Errno
	}{
		{tableOf(1), ok}, {tableOf(32), ok}, {tableOf(2, "  a\n", "- b\n", "+ c\n"), ok}, {tableOf(3, "+++a\n", "---b"), ok},
		// Marks.
		{api.Table{Parents: 1, Rows: []api.Row{row("a", 0)}}, ok}, {api.Table{Parents: 1, Rows: []api.Row{row("a", 1)}}, ok}, {api.Table{Parents: 1, Rows: []api.Row{row("a", 2)}}, marks}, {api.Table{Parents: 1, Rows: []api.Row{row("a", 3)}}, marks}, {api.Table{Parents: 1, Rows: []api.Row{row("a", 1<<31)}}, marks}, {api.Table{Parents: 1, Rows: []api.Row{lostRow("a", 0)}}, marks}, {api.Table{Parents: 1, Rows: []api.Row{lostRow("a", 1)}}, ok}, {api.Table{Parents: 1, Rows: []api.Row{lostRow("a", 2)}}, marks}, {api.Table{Parents: 32, Rows: []api.Row{lostRow("a", 0)}}, marks}, {api.Table{Parents: 32, Rows: []api.Row{row("a", 1<<32-1)}}, ok}, {api.Table{Parents: 32, Rows: []api.Row{lostRow("a", 1<<32-1)}}, ok}, {api.Table{Parents: 31, Rows: []api.Row{row("a", 1<<31-1)}}, ok}, {api.Table{Parents: 31, Rows: []api.Row{row("a", 1<<31)}}, marks}, {api.Table{Parents: 31, Rows: []api.Row{lostRow("a", 1<<31)}}, marks},
		{api.Table{Parents: 2, Rows: []api.Row{row("a\n", 0), row("b\n", 0), lostRow("c\n", 0)}}, marks}, {api.Table{Parents: 2, Rows: []api.Row{row("a\n", 4), row("b\n", 0), lostRow("c\n", 1)}}, marks},
		// Texts.
		{tableOf(1, " "), form}, {tableOf(1, "+"), form}, {tableOf(1, "-"), form}, {tableOf(1, " \n"), ok}, {tableOf(1, "-\n"), ok}, {tableOf(1, "+\n\n"), form}, {tableOf(1, " \na"), form}, {tableOf(1, "-a\nb"), form}, {tableOf(1, "-a\nb\n"), form}, {tableOf(1, "-a\n\n"), form}, {tableOf(1, " a\r\n", " \x00\xff"), ok}, {tableOf(1, " a\n", " b\n", "-"), form}, {tableOf(2, "++", "--a"), form},
		// A row without a line feed is the last one in each column in which it is visible.
		{tableOf(2, "  a", "  b\n"), form}, {tableOf(2, "  a", "++b\n"), form}, {tableOf(2, "++a", "++b"), form}, {tableOf(2, "  a", "- b\n"), form}, {tableOf(2, "  a", " -b\n"), form}, {tableOf(2, "++a", "--b\n", "--c"), ok}, {tableOf(2, "--a", "++b\n", "++c"), ok}, {tableOf(2, "--a", "+ b\n"), form}, {tableOf(2, "--a", "- b\n"), form}, {tableOf(2, "- a", "--b"), form}, {tableOf(2, "- a", " -b"), ok}, {tableOf(2, "- a", " -b", "++c"), ok}, {tableOf(2, "- a", " -b", "- c"), form}, {tableOf(2, "- a", "+ b"), ok}, {tableOf(2, "- a", " +b"), form}, {tableOf(2, "+ a", "- b\n"), ok}, {tableOf(2, "+ a", " -b\n"), form}, {tableOf(2, " +a", "- b\n"), form}, {tableOf(2, "- a", " -b\n", "+ c\n", " -d\n", "+ e"), ok}, {tableOf(2, "- a", " -b\n", "+ c\n", "- d\n", "+ e"), form}, {tableOf(2, " -a\n", "- a", "++b\n"), ok},
		// The marks come before the texts, and the number of parents before both.
		{api.Table{Parents: 2, Rows: []api.Row{row("", 0), lostRow("a\n", 0)}}, marks}, {api.Table{Parents: 2, Rows: []api.Row{row("a\nb", 0), row("a\n", 4)}}, marks}, {api.Table{Parents: 2, Rows: []api.Row{row("a", 0), row("b\n", 0), lostRow("b\n", 8)}}, marks}, {api.Table{Parents: 0, Rows: []api.Row{lostRow("", 0)}}, api.ErrArg}, {api.Table{Parents: 33, Rows: []api.Row{lostRow("", 0)}}, api.ErrArg}, {api.Table{Parents: -1, Rows: []api.Row{row("a\n", 0)}}, api.ErrArg}, {api.Table{}, api.ErrArg},
	} {
		if e := compareCheck(t, x.t); e != x.want {
			t.Errorf("P16.2: Check(%v) = %d, want %d", x.t, e, x.want)
		}
	}
}

// TestParents checks all numbers of parents, and of bits that a row may have then.
func TestParents(t *testing.T) {
	for _, parents := range append(slices.Clone(extremes), 3, 4, 8, 16, 17, 29) {
		want := api.OK
		if parents < 1 || parents > 32 {
			want = api.ErrArg
		}
		if e := compareCheck(t, api.Table{Parents: parents}); e != want {
			t.Errorf("P16.2: Check of a table with %d parents = %d, want %d", parents, e, want)
		}
		for bit := range 32 {
			for _, r := range []api.Row{{Marks: 1 << bit, Text: "a"}, {Lost: true, Marks: 1 << bit, Text: "a"}, {Marks: 1<<bit | 1, Text: "a"}} {
				compareCheck(t, api.Table{Parents: parents, Rows: []api.Row{{Text: "b\n"}, r}})
			}
		}
	}
}

// TestAllTables compares Check with its definition for all tables of a few rows, of which many are not valid.
func TestAllTables(t *testing.T) {
	var rows, valid []api.Row
	for marks := range uint32(6) {
		for _, text := range []string{"", "a", "\n", "a\n", "a\n\n"} {
			rows = append(rows, api.Row{Marks: marks, Text: text}, api.Row{Lost: true, Marks: marks, Text: text})
		}
	}
	for _, marks := range []string{"  ", " +", "+ ", "++", " -", "- ", "--"} {
		valid = append(valid, rowOf(2, marks+"a"), rowOf(2, marks+"b\n"))
	}
	errors := map[api.Errno]int{}
	testkit.EachList(rows, 2, func(list []api.Row) {
		for parents := range 5 {
			errors[compareCheck(t, api.Table{Parents: parents, Rows: list})]++
		}
	})
	testkit.EachList(valid, 4, func(list []api.Row) { errors[compareCheck(t, api.Table{Parents: 2, Rows: list})]++ })
	if len(errors) != 4 || errors[api.OK] < 1000 || errors[api.ErrForm] < 1000 {
		t.Errorf("the tables have these errors: %v", errors)
	}
}

// TestMixedTables compares Check with its definition for longer tables with small mistakes.
func TestMixedTables(t *testing.T) {
	r := rand.New(rand.NewSource(16))
	errors := map[api.Errno]int{}
	for k := range 20000 {
		table, _ := Make(testkit.MixedMerge(1+k%6, r.Intn))
		testkit.SpoilTable(table, r.Intn)
		errors[compareCheck(t, table)]++
	}
	if len(errors) != 3 || errors[api.OK] < 1000 || errors[api.ErrMarks] < 1000 || errors[api.ErrForm] < 1000 {
		t.Errorf("the tables have these errors: %v", errors)
	}
}

// TestLongTables checks that the columns of a table have no limits.
func TestLongTables(t *testing.T) {
	long := strings.Repeat("x", api.MaxBlob+1)
	for _, table := range []api.Table{tableOf(1, " "+long+"\n", "-"+long), {Parents: 2, Rows: slices.Repeat([]api.Row{{Text: "a\n"}}, 5*api.MaxLines)}, {Parents: 32, Rows: slices.Repeat([]api.Row{{Lost: true, Marks: 1<<32 - 1, Text: "a\n"}}, 2*api.MaxLines)}} {
		if e := compareCheck(t, table); e != api.OK {
			t.Errorf("P16.2: Check of a table with %d rows = %d", len(table.Rows), e)
		}
		last := table.Rows[len(table.Rows)-1]
		table.Rows[0].Text = "a"
		if e := compareCheck(t, table); e != api.ErrForm {
			t.Errorf("P16.2: Check of a table whose first row has no line feed = %d", e)
		}
		table.Rows[0] = last
		table.Rows[len(table.Rows)-1] = api.Row{Lost: true}
		if e := compareCheck(t, table); e != api.ErrMarks {
			t.Errorf("P16.2: Check of a table whose last row has no marks = %d", e)
		}
	}
}

// TestVisible compares Visible with its definition, for rows that need not be valid.
func TestVisible(t *testing.T) {
	columns := slices.Clone(extremes)
	for column := -70; column <= 70; column++ {
		columns = append(columns, column)
	}
	r := rand.New(rand.NewSource(16))
	marks := []uint32{0, 1, 2, 3, 1 << 31, 1<<31 - 1, 1<<32 - 1}
	for range 100 {
		marks = append(marks, r.Uint32())
	}
	for _, m := range marks {
		for _, column := range columns {
			for _, row := range []api.Row{{Marks: m}, {Lost: true, Marks: m}, {Marks: m, Text: "a\nb"}} {
				want := column == -1 && !row.Lost || column >= 0 && column < 32 && testkit.IsMarked(row, column) == row.Lost
				if got := Visible(row, column); got != want {
					t.Errorf("P16.2: Visible(%v, %d) = %v", row, column, got)
				}
			}
		}
	}
}
