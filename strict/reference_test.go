package strict

import (
	"regexp"
	"strconv"
	"strings"
	"testing"

	"mergelens/api"
	"mergelens/testkit"
	"mergelens/unified"
)

// Short names for the tables.
var patchOf, hunkOf = testkit.PatchOf, testkit.HunkOf

const note = "\\ No newline at end of file\n"

var (
	namesForm  = regexp.MustCompile(`^--- (.*)\n\+\+\+ (.*)\n`)
	hunkForm   = regexp.MustCompile(`^@@ -(\d{1,10})(,0)?.* \+(\d{1,10})(,0)?.*\n((?:[ +-].*\n(?:\\.*\n)?)+)`)
	linesForm  = regexp.MustCompile(`([ +-])(.*\n)(\\.*\n)?`)
	quotedForm = regexp.MustCompile(`^".*"$`)
)

// parsed is another parser: it finds a patch by regular expressions, and compares its written form with the text, as the definition says.
func parsed(s string) (api.Patch, api.Errno) {
	if len(s) > api.MaxText {
		return api.Patch{}, api.ErrLimit
	}
	p, ok := guessed(s)
	if form, e := unified.Format(p); !ok || e != api.OK || form != s {
		return api.Patch{}, api.ErrForm
	}
	return p, api.OK
}

// guessed returns a patch that may be written as a text, and false if there is none.
func guessed(s string) (api.Patch, bool) {
	m := namesForm.FindStringSubmatch(s)
	if m == nil {
		return api.Patch{}, false
	}
	p := api.Patch{OldName: nameOf(m[1]), NewName: nameOf(m[2])}
	for s = s[len(m[0]):]; s != ""; s = s[len(m[0]):] {
		m = hunkForm.FindStringSubmatch(s)
		if m == nil {
			return api.Patch{}, false
		}
		h := api.PatchHunk{Old: positionOf(m[1], m[2]), New: positionOf(m[3], m[4])}
		for _, line := range linesForm.FindAllStringSubmatch(m[5], -1) {
			if line[3] != "" {
				line[2] = strings.TrimSuffix(line[2], "\n")
			}
			h.Lines = append(h.Lines, api.PatchLine{Kind: line[1][0], Text: line[2]})
		}
		p.Hunks = append(p.Hunks, h)
	}
	return p, true
}

// nameOf returns the name that a word denotes.
func nameOf(word string) string {
	if !quotedForm.MatchString(word) {
		return word
	}
	name, _ := strconv.Unquote(word)
	return name
}

// positionOf returns the first line of a range, which is written with the given digits and perhaps the number 0 of lines.
func positionOf(digits, none string) int {
	n, _ := strconv.Atoi(digits)
	if none == "" {
		n--
	}
	return n
}

// compareParse compares Parse with the other parser, checks the definition, and returns the error.
func compareParse(t *testing.T, s string) api.Errno {
	t.Helper()
	want, f := parsed(s)
	p, e := Parse(s)
	if e != f || !testkit.SamePatch(p, want) {
		t.Fatalf("P13.1: Parse(%.200q) = %.200v, %d, want %.200v, %d", s, p, e, want, f)
	}
	if e == api.OK {
		checkBack(t, s, p)
	}
	return e
}

// checkBack checks that a patch is valid and written as a text.
func checkBack(t *testing.T, s string, p api.Patch) {
	t.Helper()
	if form, e := unified.Format(p); e != api.OK || form != s {
		t.Fatalf("P13.3: the patch %.200v of %.200q is written as %.200q, %d", p, s, form, e)
	}
}

// checkPatch checks that Parse reads a valid patch back from its written form, which is returned.
func checkPatch(t *testing.T, p api.Patch) string {
	t.Helper()
	form, e := unified.Format(p)
	if e != api.OK {
		t.Fatalf("the patch %.200v has the error %d", p, e)
	}
	if got, e := Parse(form); e != api.OK || !testkit.SamePatch(got, p) {
		t.Fatalf("P13.3: Parse(%.200q) = %.200v, %d, want %.200v", form, got, e, p)
	}
	return form
}

// checkForm checks that Parse has ErrForm for a text.
func checkForm(t *testing.T, s string) {
	t.Helper()
	if p, e := Parse(s); e != api.ErrForm || !testkit.SamePatch(p, api.Patch{}) {
		t.Errorf("P13.1: Parse(%.200q) = %.200v, %d, want ErrForm", s, p, e)
	}
}
