package weave

import (
	"math/big"
	"slices"
	"strings"
	"testing"

	"mergelens/api"
	"mergelens/lost"
	"mergelens/script"
	"mergelens/shortest"
	"mergelens/testkit"
)

// Short names for the tables.
var tableOf, rowOf, linesOf = testkit.TableOf, testkit.RowOf, testkit.LinesOf

// gap is a gap of a result, with the lost lines of each parent.
type gap [][]string

// gapsOf is the definition of the gaps between the lines of a result and of the parents without each of these lines, by the partners of the shortest scripts.
func gapsOf(result string, parents []string) ([]gap, [][]int) {
	lines := len(linesOf(result))
	gaps, without := make([]gap, lines+1), make([][]int, lines)
	for k := range gaps {
		gaps[k] = make(gap, len(parents))
	}
	for p, parent := range parents {
		old := linesOf(parent)
		s, _ := shortest.Blobs(parent, result)
		pairs, _ := script.Pairs(s, len(old), lines)
		partners := map[int]int{}
		found := make([]bool, lines)
		for _, pair := range pairs {
			partners[pair.From], found[pair.To] = pair.To, true
		}
		k := 0 // the gap behind the last partner
		for i, line := range old {
			if to, ok := partners[i]; ok {
				k = to + 1
				continue
			}
			gaps[k][p] = append(gaps[k][p], line)
		}
		for j, is := range found {
			if !is {
				without[j] = append(without[j], p)
			}
		}
	}
	return gaps, without
}

// lostRows is the definition of the lost rows of a gap.
func lostRows(g gap) ([]api.Row, api.Errno) {
	ids, names := map[string]int{}, map[int]string{}
	lists := make([][]int, len(g))
	for p, list := range g {
		for _, line := range list {
			if _, seen := ids[line]; !seen {
				ids[line] = 7 - len(ids)
				names[ids[line]] = line
			}
			lists[p] = append(lists[p], ids[line])
		}
	}
	merged, e := lost.Coalesce(lists)
	if e != api.OK {
		return nil, api.ErrLimit
	}
	var rows []api.Row
	for _, m := range merged {
		rows = append(rows, api.Row{Lost: true, Marks: m.Parents, Text: names[m.Line]})
	}
	return rows, api.OK
}

// defined is the definition of Make.
func defined(result string, parents []string) (api.Table, api.Errno) {
	if len(parents) == 0 || len(parents) > api.MaxParents {
		return api.Table{}, api.ErrArg
	}
	for _, blob := range append(slices.Clone(parents), result) {
		if testkit.IsTooLarge(linesOf(blob)) {
			return api.Table{}, api.ErrLimit
		}
	}
	t, lines := api.Table{Parents: len(parents)}, linesOf(result)
	gaps, without := gapsOf(result, parents)
	for k, g := range gaps {
		rows, e := lostRows(g)
		if e != api.OK {
			return api.Table{}, e
		}
		t.Rows = append(t.Rows, rows...)
		if k == len(lines) {
			break
		}
		marks := new(big.Int)
		for _, p := range without[k] {
			marks.SetBit(marks, p, 1)
		}
		t.Rows = append(t.Rows, api.Row{Marks: uint32(marks.Uint64()), Text: lines[k]})
	}
	return t, api.OK
}

// checked is the definition of Check: the columns of a table are lists of lines.
func checked(t api.Table) api.Errno {
	if t.Parents < 1 || t.Parents > api.MaxParents {
		return api.ErrArg
	}
	for _, r := range t.Rows {
		marked := false
		for p := range 64 {
			if testkit.IsMarked(r, p) && p >= t.Parents {
				return api.ErrMarks
			}
			marked = marked || testkit.IsMarked(r, p)
		}
		if r.Lost && !marked {
			return api.ErrMarks
		}
	}
	for column := -1; column < t.Parents; column++ {
		if lines := testkit.ColumnOf(t, column); !slices.Equal(linesOf(strings.Join(lines, "")), lines) {
			return api.ErrForm
		}
	}
	return api.OK
}

// head returns the first rows of a table with the beginnings of their texts, for messages.
func head(t api.Table) api.Table {
	rows := slices.Clone(testkit.Head(t.Rows))
	for k, r := range rows {
		rows[k].Text = r.Text[:min(len(r.Text), 40)]
	}
	return api.Table{Parents: t.Parents, Rows: rows}
}

// compare compares Make with its definition, and the columns of the table with the blobs. It returns the table and the error.
func compare(t *testing.T, result string, parents []string) (api.Table, api.Errno) {
	t.Helper()
	table, e := Make(result, parents)
	if want, f := defined(result, parents); e != f || !testkit.SameTable(table, want) {
		t.Fatalf("P16.1: Make(%.40q, %d parents: %.200q) = %v, %d, want %v, %d", result, len(parents), testkit.Head(parents), head(table), e, head(want), f)
	}
	if e != api.OK {
		return table, e
	}
	if f := compareCheck(t, table); f != api.OK {
		t.Fatalf("P16.3: Make(%.40q, %.200q) = %v is not valid: %d", result, testkit.Head(parents), head(table), f)
	}
	for p, blob := range append([]string{result}, parents...) {
		if got := visible(table, p-1); !slices.Equal(got, linesOf(blob)) {
			t.Fatalf("P16.3: in column %d, Make(%.40q, %.200q) has the lines %.200q", p-1, result, testkit.Head(parents), testkit.Head(got))
		}
	}
	return table, e
}

// visible returns the lines of a column, as Visible finds them.
func visible(t api.Table, column int) []string {
	var lines []string
	for _, r := range t.Rows {
		if Visible(r, column) {
			lines = append(lines, r.Text)
		}
	}
	return lines
}

// compareCheck compares Check with its definition. It returns the error.
func compareCheck(t *testing.T, table api.Table) api.Errno {
	t.Helper()
	e := Check(table)
	if want := checked(table); e != want {
		t.Fatalf("P16.2: Check(%v) = %d, want %d", head(table), e, want)
	}
	return e
}
