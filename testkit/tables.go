package testkit

import (
	"slices"
	"strings"

	"mergelens/api"
)

// RowOf returns a row that is written with one byte for each parent before its text: '-' for a mark of a lost row, '+' for a mark of a row of the result, and a space for no mark.
func RowOf(parents int, written string) api.Row {
	marks, text := written[:parents], written[parents:]
	r := api.Row{Lost: strings.Contains(marks, "-"), Text: text}
	bit := uint32(1)
	for p := range parents {
		if marks[p] != ' ' {
			r.Marks += bit
		}
		bit *= 2
	}
	return r
}

// TableOf returns a table whose rows are written as for RowOf.
func TableOf(parents int, rows ...string) api.Table {
	t := api.Table{Parents: parents}
	for _, written := range rows {
		t.Rows = append(t.Rows, RowOf(parents, written))
	}
	return t
}

// SameTable reports whether two tables are equal.
func SameTable(t, u api.Table) bool {
	return t.Parents == u.Parents && slices.Equal(t.Rows, u.Rows)
}

// CloneTable returns a table that shares no list with another one.
func CloneTable(t api.Table) api.Table {
	t.Rows = slices.Clone(t.Rows)
	return t
}

// IsMarked reports whether bit p of the marks of a row is set, for any p.
func IsMarked(r api.Row, p int) bool {
	rest := uint64(r.Marks)
	for bit := 0; rest > 0; bit++ {
		if rest%2 == 1 && bit == p {
			return true
		}
		rest /= 2
	}
	return false
}

// ColumnOf returns the lines of the rows of a table that are visible in a parent, or in the result for -1.
func ColumnOf(t api.Table, column int) []string {
	var lines []string
	for _, r := range t.Rows {
		if column == -1 && !r.Lost || column >= 0 && IsMarked(r, column) == r.Lost {
			lines = append(lines, r.Text)
		}
	}
	return lines
}

// MixedMerge returns a result and so many parents that have many lines in common. The function intn returns any number from 0 to n - 1.
func MixedMerge(parents int, intn func(n int) int) (string, []string) {
	letters := 1 + intn(30)
	line := func() string { return string(rune('0'+intn(letters))) + "\n" }
	var base []string
	for range intn(40) {
		base = append(base, line())
	}
	// A version changes some of the lines, in places where other versions change some as well.
	version := func() string {
		var b strings.Builder
		for i, same := range base {
			switch {
			case i%4 == 0 || intn(3) > 0:
				b.WriteString(same)
			case intn(3) > 0:
				b.WriteString(line())
			case intn(2) == 0:
				b.WriteString(line() + same)
			}
		}
		return b.String() + []string{"", "", "x", "y"}[intn(4)]
	}
	var list []string
	for range parents {
		if len(list) > 0 && intn(4) == 0 {
			list = append(list, list[intn(len(list))])
			continue
		}
		list = append(list, version())
	}
	return version(), list
}

// SpoilTable makes a small change somewhere in a valid table, which is often not valid then. The function intn returns any number from 0 to n - 1.
func SpoilTable(t api.Table, intn func(n int) int) {
	if len(t.Rows) == 0 {
		return
	}
	k := intn(len(t.Rows))
	r := &t.Rows[k]
	switch intn(6) {
	case 0:
		r.Lost = !r.Lost
	case 1:
		r.Marks ^= 1 << intn(32)
	case 2:
		r.Marks = 0
	case 3:
		r.Text = "a\nb\n"[intn(5):]
	case 4:
		r.Text = strings.TrimSuffix(r.Text, "\n")
	case 5:
		other := &t.Rows[intn(len(t.Rows))]
		*r, *other = *other, *r
	}
}

// AddTable adds the table and the error that a call returns.
func (list *Answers) AddTable(t api.Table, e api.Errno) {
	list.Add(int(e), t.Parents, len(t.Rows))
	for _, r := range t.Rows {
		if r.Lost {
			list.Add(-1)
		}
		list.Add(int(r.Marks))
		*list = append(*list, r.Text)
	}
}
