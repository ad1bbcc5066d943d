package unified

import (
	"fmt"
	"math"
	"math/big"
	"slices"
	"strings"
	"testing"

	"mergelens/api"
	"mergelens/hunk"
	"mergelens/intern"
	"mergelens/script"
	"mergelens/shortest"
	"mergelens/slide"
	"mergelens/testkit"
	"mergelens/text"
)

// Short names for the tables.
var patchOf, hunkOf, sideOf = testkit.PatchOf, testkit.HunkOf, testkit.SideOf

// ends returns the ends of a hunk in both texts, as exact numbers.
func ends(h api.PatchHunk) (*big.Int, *big.Int) {
	return sum(h.Old, len(sideOf(h, '-'))), sum(h.New, len(sideOf(h, '+')))
}

// sum returns the exact sum of two numbers.
func sum(x, y int) *big.Int {
	return new(big.Int).Add(big.NewInt(int64(x)), big.NewInt(int64(y)))
}

// validHunk is the definition of what a hunk has to be by itself.
func validHunk(h api.PatchHunk) bool {
	for _, line := range h.Lines {
		feed := strings.IndexByte(line.Text, '\n')
		if !strings.ContainsRune(" -+", rune(line.Kind)) || line.Text == "" || feed >= 0 && feed < len(line.Text)-1 {
			return false
		}
	}
	changes := slices.ContainsFunc(h.Lines, func(line api.PatchLine) bool { return line.Kind != ' ' })
	return changes && h.Old >= 0 && h.New >= 0
}

// validGaps is the definition of where the hunks of a patch have to be.
func validGaps(hunks []api.PatchHunk) bool {
	for i, h := range hunks {
		oldEnd, newEnd := new(big.Int), new(big.Int)
		if i > 0 {
			oldEnd, newEnd = ends(hunks[i-1])
		}
		oldGap, newGap := sum(h.Old, 0), sum(h.New, 0)
		oldGap.Sub(oldGap, oldEnd)
		newGap.Sub(newGap, newEnd)
		if oldGap.Cmp(newGap) != 0 || oldGap.Sign() < 0 {
			return false
		}
		most := big.NewInt(api.MaxLines)
		if oldEnd, newEnd = ends(h); i == len(hunks)-1 && (oldEnd.Cmp(most) > 0 || newEnd.Cmp(most) > 0) {
			return false
		}
	}
	return true
}

// validFeeds is the definition of which old lines, for the kind '-', or new ones, for '+', have to have a line feed.
func validFeeds(hunks []api.PatchHunk, kind byte) bool {
	var lines []string
	for _, h := range hunks {
		lines = append(lines, sideOf(h, kind)...)
	}
	for i, line := range lines {
		if i < len(lines)-1 && !strings.HasSuffix(line, "\n") {
			return false
		}
	}
	return true
}

// written is the definition of the written form of a valid patch.
func written(p api.Patch) string {
	var form strings.Builder
	fmt.Fprintf(&form, "--- %s\n+++ %s\n", word(p.OldName), word(p.NewName))
	for _, h := range p.Hunks {
		fmt.Fprintf(&form, "@@ -%s +%s @@\n", lineRange(h.Old, len(sideOf(h, '-'))), lineRange(h.New, len(sideOf(h, '+'))))
		for _, line := range h.Lines {
			fmt.Fprintf(&form, "%c%s", line.Kind, line.Text)
			if !strings.HasSuffix(line.Text, "\n") {
				form.WriteString("\n\\ No newline at end of file\n")
			}
		}
	}
	return form.String()
}

// word is the definition of the word for a name.
func word(name string) string {
	var list strings.Builder
	plain := name != ""
	for i := range len(name) {
		switch b := name[i]; {
		case b == '"' || b == '\\':
			plain = false
			list.WriteString("\\" + name[i:i+1])
		case b == '\n':
			plain = false
			list.WriteString(`\n`)
		case b == '\t':
			plain = false
			list.WriteString(`\t`)
		case b < ' ' || b > '~':
			plain = false
			fmt.Fprintf(&list, `\%03o`, b)
		default:
			plain = plain && b != ' '
			list.WriteByte(b)
		}
	}
	if plain {
		return name
	}
	return `"` + list.String() + `"`
}

// lineRange is the definition of the range of some lines.
func lineRange(start, count int) string {
	switch count {
	case 0:
		return fmt.Sprintf("%d,0", start)
	case 1:
		return fmt.Sprint(start + 1)
	}
	return fmt.Sprintf("%d,%d", start+1, count)
}

// errorOf is the definition of the error of a patch.
func errorOf(p api.Patch) api.Errno {
	for _, name := range []string{p.OldName, p.NewName} {
		if len(name) < 1 || len(name) > api.MaxPath {
			return api.ErrName
		}
	}
	for _, h := range p.Hunks {
		if !validHunk(h) {
			return api.ErrHunk
		}
	}
	if !validGaps(p.Hunks) || !validFeeds(p.Hunks, '-') || !validFeeds(p.Hunks, '+') {
		return api.ErrHunk
	}
	if len(written(p)) > api.MaxText {
		return api.ErrLimit
	}
	return api.OK
}

// compareForm compares Check, Format and Count with their definitions, and returns the error.
func compareForm(t *testing.T, p api.Patch) api.Errno {
	t.Helper()
	want := errorOf(p)
	if e := Check(p); e != want {
		t.Fatalf("P12.1: Check(%.200v) = %d, want %d", p, e, want)
	}
	form := ""
	if want == api.OK {
		form = written(p)
	}
	if s, e := Format(p); e != want || s != form {
		t.Fatalf("P12.1: Format(%.200v) = %.200q, %d, want %.200q, %d", p, s, e, form, want)
	}
	minus, plus := 0, 0
	for _, h := range p.Hunks {
		for _, line := range h.Lines {
			minus += strings.Count("-", string([]byte{line.Kind}))
			plus += strings.Count("+", string([]byte{line.Kind}))
		}
	}
	if gotMinus, gotPlus := Count(p); gotMinus != minus || gotPlus != plus {
		t.Fatalf("P12.3: Count(%.200v) = %d, %d, want %d, %d", p, gotMinus, gotPlus, minus, plus)
	}
	return want
}

// numbered returns the lines of two blobs, and the same lines as numbers.
func numbered(a, b string) ([][]string, [][]int) {
	old, _ := text.Split(a)
	now, _ := text.Split(b)
	lines := [][]string{old, now}
	return lines, intern.Ids(lines)
}

// scriptOf is the definition of the script of a patch.
func scriptOf(a, b string, down bool) []api.Change {
	l, _ := shortest.Blobs(a, b)
	if down {
		_, ids := numbered(a, b)
		l, _ = slide.Down(l, ids[0], ids[1])
	}
	return l
}

// made is the definition of the patch of two blobs without an error: its lines are found by the partners.
func made(a, b string, context int, down bool) api.Patch {
	lines, _ := numbered(a, b)
	old, now := lines[0], lines[1]
	l := scriptOf(a, b, down)
	pairs, _ := script.Pairs(l, len(old), len(now))
	partners := map[int]int{}
	matched := map[int]bool{}
	for _, s := range pairs {
		partners[s.From], matched[s.To] = s.To, true
	}
	p := patchOf()
	hunks, _ := hunk.Group(l, len(old), len(now), context)
	for _, h := range hunks {
		x := api.PatchHunk{Old: h.Old.From, New: h.New.From}
		for i, j := h.Old.From, h.New.From; i < h.Old.To || j < h.New.To; {
			partner, ok := partners[i]
			switch {
			case i < h.Old.To && !ok:
				x.Lines = append(x.Lines, api.PatchLine{Kind: '-', Text: old[i]})
				i++
			case j < h.New.To && !matched[j]:
				x.Lines = append(x.Lines, api.PatchLine{Kind: '+', Text: now[j]})
				j++
			case partner == j:
				x.Lines = append(x.Lines, api.PatchLine{Kind: ' ', Text: old[i]})
				i, j = i+1, j+1
			default:
				panic("the partners of a hunk are not in order")
			}
		}
		p.Hunks = append(p.Hunks, x)
	}
	return p
}

// applied returns the blob that the hunks of a patch make of a blob, and false if they do not fit it.
func applied(p api.Patch, blob string) (string, bool) {
	lines, _ := text.Split(blob)
	var result []string
	next := 0
	for _, h := range p.Hunks {
		before := sideOf(h, '-')
		if h.Old < next || h.Old+len(before) > len(lines) || !slices.Equal(lines[h.Old:h.Old+len(before)], before) {
			return "", false
		}
		result = append(result, lines[next:h.Old]...)
		if h.New != len(result) {
			return "", false
		}
		result = append(result, sideOf(h, '+')...)
		next = h.Old + len(before)
	}
	return strings.Join(append(result, lines[next:]...), ""), true
}

// compareMake compares Make with its definition for blobs without an error, and checks the consequences.
func compareMake(t *testing.T, a, b string, context int, down bool) api.Patch {
	t.Helper()
	p, e := Make("a", "b", a, b, context, down)
	if want := made(a, b, context, down); e != api.OK || !testkit.SamePatch(p, want) {
		t.Fatalf("P12.2: Make(%.40q, %.40q, %d, %v) = %.200v, %d, want %.200v", a, b, context, down, p, e, want)
	}
	if f := compareForm(t, p); f != api.OK || len(p.Hunks) == 0 != (a == b) {
		t.Fatalf("P12.4: Make(%.40q, %.40q, %d, %v) = %.200v has the error %d", a, b, context, down, p, f)
	}
	minus, plus := Count(p)
	_, ids := numbered(a, b)
	if distance, _ := shortest.Distance(ids[0], ids[1]); minus+plus != distance {
		t.Fatalf("P12.4: Make(%.40q, %.40q, %d, %v) has %d and %d changed lines, but the distance is %d", a, b, context, down, minus, plus, distance)
	}
	if got, ok := applied(p, a); !ok || got != b {
		t.Fatalf("P12.2: Make(%.40q, %.40q, %d, %v) = %.200v makes %.40q of the blob", a, b, context, down, p, got)
	}
	return p
}

// extremes lists integers in and far out of range.
var extremes = []int{math.MinInt, -1 << 32, -1, 0, 1, 2, 3, api.MaxLines - 1, api.MaxLines, api.MaxLines + 1, 1 << 32, math.MaxInt - 1, math.MaxInt}
