package strict

import (
	"strings"

	"mergelens/api"
	"mergelens/scan"
)

// mostLines is the most lines that a patch is written in: two names, each line of both texts with the header of a hunk of its own, and a note that its line feed is missing for the last line of each text.
const mostLines = 2 + 2*2*api.MaxLines + 2

// read returns the only patch that may be written as s, and false if the lines of s show that there is none.
func read(s string) (api.Patch, bool) {
	// Counted before the lines are listed, so that a text of many short lines takes no more memory than a patch.
	if strings.Count(s, "\n") > mostLines {
		return api.Patch{}, false
	}
	lines, ok := Lines(s)
	if !ok {
		return api.Patch{}, false
	}
	steps := map[byte]func(*reader, string) bool{
		'-':  (*reader).minus,
		'+':  (*reader).plus,
		'@':  (*reader).header,
		' ':  (*reader).body,
		'\\': (*reader).unended,
	}
	r := &reader{}
	for _, line := range lines {
		if line == "" {
			return api.Patch{}, false
		}
		step, known := steps[line[0]]
		if !known || !step(r, line) {
			return api.Patch{}, false
		}
	}
	return r.patch, true
}

// reader has what has been read of a patch. Each of its methods reads one line, and returns false if no patch has such a line here.
type reader struct {
	patch api.Patch
}

// minus reads the line with the old name, which comes first, or a removed line.
func (r *reader) minus(line string) bool {
	if r.patch.OldName == "" {
		return readName(line, &r.patch.OldName)
	}
	return r.body(line)
}

// plus reads the line with the new name, which comes first, or an added line.
func (r *reader) plus(line string) bool {
	if r.patch.NewName == "" {
		return readName(line, &r.patch.NewName)
	}
	return r.body(line)
}

// readName reads the name after the four bytes with which its line begins.
func readName(line string, name *string) bool {
	word, _, ok := scan.Unquote(line, len("--- "))
	*name = word
	return ok
}

// header reads the first line of a hunk.
func (r *reader) header(line string) bool {
	old, _, end, ok := scan.Range(line, len("@@ -"))
	if !ok {
		return false
	}
	now, _, _, ok := scan.Range(line, end+len(" +"))
	if !ok {
		return false
	}
	r.patch.Hunks = append(r.patch.Hunks, api.PatchHunk{Old: old, New: now})
	return true
}

// body reads a line of a hunk.
func (r *reader) body(line string) bool {
	if len(r.patch.Hunks) == 0 {
		return false
	}
	h := &r.patch.Hunks[len(r.patch.Hunks)-1]
	h.Lines = append(h.Lines, api.PatchLine{Kind: line[0], Text: line[1:] + "\n"})
	return true
}

// unended reads the note that the line before it has no line feed.
func (r *reader) unended(string) bool {
	if len(r.patch.Hunks) == 0 {
		return false
	}
	h := &r.patch.Hunks[len(r.patch.Hunks)-1]
	if len(h.Lines) == 0 {
		return false
	}
	last := &h.Lines[len(h.Lines)-1]
	last.Text = strings.TrimSuffix(last.Text, "\n")
	return true
}
