package hunk

import (
	"slices"
	"testing"

	"mergelens/api"
	"mergelens/script"
	"mergelens/testkit"
)

// changes returns the changes with the given fields: Old, OldLen, New and NewLen.
var changes = testkit.Changes

// hunks returns the hunks with the given fields: First and Last, then From and To of Old and of New.
func hunks(fields ...[6]int) []api.Hunk {
	var h []api.Hunk
	for _, f := range fields {
		h = append(h, api.Hunk{First: f[0], Last: f[1], Old: api.Span{From: f[2], To: f[3]}, New: api.Span{From: f[4], To: f[5]}})
	}
	return h
}

// matchedBetween returns how many of the old lines that have a partner are from a line on and before another one.
func matchedBetween(pairs []api.Span, from, to int) int {
	count := 0
	for _, p := range pairs {
		if from <= p.From && p.From < to {
			count++
		}
	}
	return count
}

// grouped is the definition of the hunks of a valid script with the given partners.
func grouped(l []api.Change, pairs []api.Span, m, context int) []api.Hunk {
	var h []api.Hunk
	for k, c := range l {
		if k == 0 || matchedBetween(pairs, l[k-1].Old+l[k-1].OldLen, c.Old) > 2*context {
			h = append(h, api.Hunk{First: k})
		}
		h[len(h)-1].Last = k + 1
	}
	for i := range h {
		x := &h[i]
		first, last := l[x.First], l[x.Last-1]
		oldEnd, newEnd := last.Old+last.OldLen, last.New+last.NewLen
		x.Old = api.Span{From: max(first.Old-context, 0), To: min(oldEnd+context, m)}
		x.New = api.Span{From: first.New - (first.Old - x.Old.From), To: newEnd + (x.Old.To - oldEnd)}
	}
	return h
}

// groupError is the definition of the error of Group.
func groupError(l []api.Change, m, n, context int) api.Errno {
	if context < 0 || context > api.MaxContext {
		return api.ErrRange
	}
	return script.Check(l, m, n)
}

// compareGroup compares Group with the definition, and checks the consequences if there is no error.
func compareGroup(t *testing.T, l []api.Change, m, n, context int) []api.Hunk {
	t.Helper()
	want := groupError(l, m, n, context)
	h, e := Group(l, m, n, context)
	if e != want || e != api.OK && len(h) > 0 {
		t.Fatalf("P11.1: Group(%v, %d, %d, %d) = %v, %d, want the error %d", testkit.Head(l), m, n, context, testkit.Head(h), e, want)
	}
	if e != api.OK {
		return nil
	}
	pairs, _ := script.Pairs(l, m, n)
	if want := grouped(l, pairs, m, context); !slices.Equal(h, want) {
		t.Fatalf("P11.1: Group(%v, %d, %d, %d) = %v, want %v", testkit.Head(l), m, n, context, testkit.Head(h), testkit.Head(want))
	}
	if problem := consequences(h, l, pairs, api.Span{From: m, To: n}, context); problem != "" {
		t.Fatalf("P11.3: Group(%v, %d, %d, %d) = %v: %s", testkit.Head(l), m, n, context, testkit.Head(h), problem)
	}
	if cover, want := Cover(h, m), covered(h, m); !slices.Equal(cover, want) {
		t.Fatalf("P11.2: Cover(%v, %d) = %v, want %v", testkit.Head(h), m, testkit.Head(cover), testkit.Head(want))
	}
	return h
}

// consequences returns which of the consequences does not hold for the hunks of a script with the given partners and ends of its texts.
func consequences(h []api.Hunk, l []api.Change, pairs []api.Span, ends api.Span, context int) string {
	next := 0 // the first change that is in no hunk so far
	for i, x := range h {
		switch {
		case x.First != next || x.Last <= x.First || x.Last > len(l):
			return "a change is in no hunk or in several ones, or a hunk has no change"
		case x.Old.From < 0 || x.New.From < 0 || x.Old.To > ends.From || x.New.To > ends.To:
			return "a hunk is outside of a text"
		case i > 0 && (x.Old.From <= h[i-1].Old.To || x.New.From <= h[i-1].New.To):
			return "no line lies between two hunks"
		}
		for _, c := range l[x.First:x.Last] {
			if c.Old < x.Old.From || c.New < x.New.From || c.Old+c.OldLen > x.Old.To || c.New+c.NewLen > x.New.To {
				return "a change is not in its hunk"
			}
		}
		next = x.Last
	}
	if next != len(l) {
		return "the last change is in no hunk"
	}
	for _, p := range pairs {
		if inHunk := contains(h, p.From); inHunk != near(l, p.From, context) || inHunk != containsNew(h, p.To) {
			return "a matched line is or is not in a hunk"
		}
	}
	return ""
}

// near reports whether a change is at most context lines away from an old line that is matched.
func near(l []api.Change, line, context int) bool {
	return slices.ContainsFunc(l, func(c api.Change) bool {
		if line < c.Old {
			return c.Old-line <= context
		}
		return line-(c.Old+c.OldLen-1) <= context
	})
}

// contains reports whether an old line lies in a hunk.
func contains(h []api.Hunk, line int) bool {
	return slices.ContainsFunc(h, func(x api.Hunk) bool { return x.Old.From <= line && line < x.Old.To })
}

// containsNew reports whether a new line lies in a hunk.
func containsNew(h []api.Hunk, line int) bool {
	return slices.ContainsFunc(h, func(x api.Hunk) bool { return x.New.From <= line && line < x.New.To })
}

// covered is the definition of the result of Cover.
func covered(h []api.Hunk, m int) []bool {
	if m < 0 || m > api.MaxLines {
		return nil
	}
	var cover []bool
	for i := range m {
		cover = append(cover, contains(h, i))
	}
	return cover
}
