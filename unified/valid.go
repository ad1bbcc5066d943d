package unified

import (
	"strings"

	"mergelens/api"
	"mergelens/text"
)

// isName reports whether a name is valid.
func isName(name string) bool {
	return name != "" && len(name) <= api.MaxPath
}

// side is the old or the new text, as far as the hunks of a patch have been read.
type side struct {
	end    int
	closed bool // no line may follow, since the last one has no line feed
}

// skip goes on to the lines from a position on, and reports whether they can be there.
func (s *side) skip(to int) bool {
	if to < s.end || to > api.MaxLines {
		return false
	}
	s.end = to
	return true
}

// add adds a line, and reports whether it can be there.
func (s *side) add(line string) bool {
	if s.closed || s.end == api.MaxLines {
		return false
	}
	s.end++
	s.closed = !text.Ended(line)
	return true
}

// areHunks reports whether hunks are those of a valid patch.
func areHunks(hunks []api.PatchHunk) bool {
	var old, now side
	for _, h := range hunks {
		oldEnd, newEnd := old.end, now.end
		// The differences can not wrap around, since they are computed only if the positions are lines of a text.
		if !old.skip(h.Old) || !now.skip(h.New) || h.Old-oldEnd != h.New-newEnd {
			return false
		}
		if !areLines(h.Lines, &old, &now) {
			return false
		}
	}
	return true
}

// areLines reports whether lines are those of a hunk, and adds them to the texts.
func areLines(lines []api.PatchLine, old, now *side) bool {
	changed := false
	for _, line := range lines {
		if !isLine(line) {
			return false
		}
		if line.Kind != added && !old.add(line.Text) || line.Kind != removed && !now.add(line.Text) {
			return false
		}
		changed = changed || line.Kind != kept
	}
	return changed
}

// isLine reports whether a line is valid by itself.
func isLine(line api.PatchLine) bool {
	switch line.Kind {
	case kept, removed, added:
		return line.Text != "" && !strings.Contains(text.Bare(line.Text), "\n")
	}
	return false
}
