package testkit

import (
	"slices"
	"strings"

	"mergelens/api"
)

// EachList calls f with all lists of at most length elements.
func EachList[T any](elements []T, length int, f func(list []T)) {
	var extend func(list []T)
	extend = func(list []T) {
		f(slices.Clone(list))
		if len(list) < length {
			for _, x := range elements {
				extend(append(list, x))
			}
		}
	}
	extend(nil)
}

// PatchOf returns a patch with ordinary names.
func PatchOf(hunks ...api.PatchHunk) api.Patch {
	return api.Patch{OldName: "a", NewName: "b", Hunks: hunks}
}

// HunkOf returns a hunk whose lines are written with their kinds before them.
func HunkOf(old, now int, lines ...string) api.PatchHunk {
	h := api.PatchHunk{Old: old, New: now}
	for _, line := range lines {
		h.Lines = append(h.Lines, api.PatchLine{Kind: line[0], Text: line[1:]})
	}
	return h
}

// SamePatch reports whether two patches are equal.
func SamePatch(p, q api.Patch) bool {
	return p.OldName == q.OldName && p.NewName == q.NewName && slices.EqualFunc(p.Hunks, q.Hunks, func(x, y api.PatchHunk) bool {
		return x.Old == y.Old && x.New == y.New && slices.Equal(x.Lines, y.Lines)
	})
}

// ClonePatch returns a patch that shares no lists with another one.
func ClonePatch(p api.Patch) api.Patch {
	p.Hunks = slices.Clone(p.Hunks)
	for i := range p.Hunks {
		p.Hunks[i].Lines = slices.Clone(p.Hunks[i].Lines)
	}
	return p
}

// SideOf returns the lines of a hunk in the old text, for the kind '-', or in the new text, for the kind '+'.
func SideOf(h api.PatchHunk, kind byte) []string {
	var list []string
	for _, line := range h.Lines {
		if line.Kind == ' ' || line.Kind == kind {
			list = append(list, line.Text)
		}
	}
	return list
}

// MixedPatch returns a valid patch with several hunks. The function intn returns any number from 0 to n - 1.
func MixedPatch(intn func(n int) int) api.Patch {
	p := PatchOf()
	old, now := 0, 0
	for range intn(6) {
		gap := intn(3) * intn(20)
		h := api.PatchHunk{Old: old + gap, New: now + gap}
		old, now = h.Old, h.New
		for k := range 1 + intn(8) {
			line := api.PatchLine{Kind: " -+"[intn(3)], Text: "abc\n"[intn(4):]}
			if k == 0 {
				line.Kind = "-+"[intn(2)]
			}
			if line.Kind != '+' {
				old++
			}
			if line.Kind != '-' {
				now++
			}
			h.Lines = slices.Insert(h.Lines, intn(k+1), line)
		}
		p.Hunks = append(p.Hunks, h)
	}
	unend(p, intn)
	return p
}

// unend takes the line feeds of some of the lines that may have none: the last ones of both texts, unless they are empty.
func unend(p api.Patch, intn func(n int) int) {
	old, now := lastLine(p, '+'), lastLine(p, '-')
	for _, line := range []*api.PatchLine{old, now} {
		if line == nil || line.Text == "\n" || line.Kind == ' ' && old != now {
			continue
		}
		if intn(2) == 0 {
			line.Text = strings.TrimSuffix(line.Text, "\n")
		}
	}
}

// lastLine returns the last line of a patch that is not of the kind other, or nil.
func lastLine(p api.Patch, other byte) *api.PatchLine {
	var last *api.PatchLine
	for _, h := range p.Hunks {
		for k := range h.Lines {
			if h.Lines[k].Kind != other {
				last = &h.Lines[k]
			}
		}
	}
	return last
}

// SpoilPatch makes a small change somewhere in a valid patch, which is mostly not valid then. The function intn returns any number from 0 to n - 1.
func SpoilPatch(p api.Patch, intn func(n int) int) {
	if len(p.Hunks) == 0 {
		return
	}
	h := &p.Hunks[intn(len(p.Hunks))]
	line := &h.Lines[intn(len(h.Lines))]
	switch intn(8) {
	case 0:
		h.Old += intn(3) - 1
	case 1:
		h.New += intn(3) - 1
	case 2:
		h.Old, h.New = h.Old-1, h.New-1
	case 3:
		h.Lines = h.Lines[1:]
	case 4:
		line.Kind = " -+\\"[intn(4)]
	case 5:
		line.Text = "a\nb\n"[intn(5):]
	case 6:
		h.Lines = append(h.Lines, *line)
	case 7:
		*line = api.PatchLine{Kind: ' ', Text: "a"}
	}
}

// AddPatch adds the patch and the error that a call returns.
func (list *Answers) AddPatch(p api.Patch, e api.Errno) {
	*list = append(*list, p.OldName, p.NewName)
	list.Add(int(e), len(p.Hunks))
	for _, h := range p.Hunks {
		list.Add(h.Old, h.New, len(h.Lines))
		for _, line := range h.Lines {
			*list = append(*list, string(line.Kind), line.Text)
		}
	}
}
