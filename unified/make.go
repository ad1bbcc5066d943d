package unified

import (
	"mergelens/api"
	"mergelens/hunk"
	"mergelens/shortest"
	"mergelens/slide"
	"mergelens/text"
)

// Make returns the patch from one blob to another one. The written form is never too long: blobs and names are far too short for that.
func Make(oldName string, newName string, a string, b string, context int, down bool) (api.Patch, api.Errno) {
	if !isName(oldName) || !isName(newName) {
		return api.Patch{}, api.ErrName
	}
	d, e := compare(a, b, down)
	if e != api.OK {
		return api.Patch{}, e
	}
	hunks, e := hunk.Group(d.script, len(d.old), len(d.now), context)
	if e != api.OK {
		return api.Patch{}, e
	}
	p := api.Patch{OldName: oldName, NewName: newName}
	for _, h := range hunks {
		p.Hunks = append(p.Hunks, api.PatchHunk{Old: h.Old.From, New: h.New.From, Lines: d.lines(h)})
	}
	return p, api.OK
}

// difference has the lines of two texts and a script that fits them.
type difference struct {
	old, now []string
	script   []api.Change
}

// compare returns the difference of two blobs.
func compare(a, b string, down bool) (difference, api.Errno) {
	script, e := shortest.Blobs(a, b)
	if e != api.OK {
		return difference{}, e
	}
	// No errors follow: both blobs are checked, and their script fits them.
	old, _ := text.Split(a)
	now, _ := text.Split(b)
	if down {
		ids := map[string]int{}
		script, _ = slide.Down(script, numbers(ids, old), numbers(ids, now))
	}
	return difference{old, now, script}, api.OK
}

// numbers returns a number for each line, which is a new one if the line has none yet.
func numbers(ids map[string]int, lines []string) []int {
	list := make([]int, len(lines))
	for i, line := range lines {
		if _, seen := ids[line]; !seen {
			ids[line] = len(ids)
		}
		list[i] = ids[line]
	}
	return list
}

// lines returns the lines of a hunk.
func (d difference) lines(h api.Hunk) []api.PatchLine {
	var list []api.PatchLine
	next := h.Old.From // the first old line that is not in the list so far
	for _, c := range d.script[h.First:h.Last] {
		list = appendLines(list, kept, d.old[next:c.Old])
		next = c.Old + c.OldLen
		list = appendLines(list, removed, d.old[c.Old:next])
		list = appendLines(list, added, d.now[c.New:c.New+c.NewLen])
	}
	return appendLines(list, kept, d.old[next:h.Old.To])
}

// appendLines appends lines of a kind.
func appendLines(list []api.PatchLine, kind byte, lines []string) []api.PatchLine {
	for _, line := range lines {
		list = append(list, api.PatchLine{Kind: kind, Text: line})
	}
	return list
}
