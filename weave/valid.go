package weave

import (
	"slices"
	"strings"

	"mergelens/api"
	"mergelens/text"
)

// Check returns the error of a table.
func Check(t api.Table) api.Errno {
	if !isCount(t.Parents) {
		return api.ErrArg
	}
	if slices.ContainsFunc(t.Rows, func(r api.Row) bool { return !hasMarks(r, t.Parents) }) {
		return api.ErrMarks
	}
	if slices.ContainsFunc(t.Rows, func(r api.Row) bool { return !isLine(r.Text) }) || !endsLast(t) {
		return api.ErrForm
	}
	return api.OK
}

// hasMarks says whether a row may have its marks in a table with so many parents.
func hasMarks(r api.Row, parents int) bool {
	return r.Marks>>parents == 0 && (r.Marks != 0 || !r.Lost)
}

// isLine says whether a text is a single line.
func isLine(s string) bool {
	return s != "" && !strings.Contains(text.Bare(s), "\n")
}

// endsLast says whether in each column only the last row has no line feed.
func endsLast(t api.Table) bool {
	for column := resultColumn; column < t.Parents; column++ {
		open := false // whether the last row so far has none
		for _, r := range t.Rows {
			if !Visible(r, column) {
				continue
			}
			if open {
				return false
			}
			open = !text.Ended(r.Text)
		}
	}
	return true
}
