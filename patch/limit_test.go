package patch

import (
	"slices"
	"strings"
	"testing"

	"mergelens/api"
	"mergelens/testkit"
	"mergelens/unified"
)

// TestBytes checks results of as many bytes as a blob may have, and of more.
func TestBytes(t *testing.T) {
	for _, x := range []struct {
		blob   string
		hunk   api.PatchHunk
		length int // that of the result
	}{
		{"a\n", hunkOf(1, 1, "+x"), 3}, {"a\n", hunkOf(0, 0, "+x\n"), 4}, {"a\n", hunkOf(0, 0, "-a\n", "+x"), 1}, {"a\n", hunkOf(0, 0, "+x", "-a\n"), 1}, {"", hunkOf(0, 0, "+x"), 1}, {"a\nb\nc", hunkOf(1, 1, "+x\n", "-b\n"), 5}, {"\n" + strings.Repeat("a", api.MaxBlob-9), hunkOf(0, 0, "+x\n", " \n"), api.MaxBlob - 6},
	} {
		line := &x.hunk.Lines[slices.IndexFunc(x.hunk.Lines, func(line api.PatchLine) bool { return line.Kind == '+' })]
		short := line.Text
		for _, more := range []int{-1, 0, 1, 2, api.MaxBlob} {
			want := api.OK
			if more > 0 {
				want = api.ErrLimit
			}
			line.Text = strings.Repeat("x", api.MaxBlob-x.length+more) + short
			if got, e := compare(t, patchOf(x.hunk), x.blob); e != want || e == api.OK && len(got) != api.MaxBlob+more {
				t.Errorf("P14.1: Apply(%.60v, %.9q) has %d bytes and the error %d, want %d bytes and the error %d", x.hunk, x.blob, len(got), e, api.MaxBlob+more, want)
			}
		}
	}
}

// TestLines checks results of as many lines as a blob may have, and of more.
func TestLines(t *testing.T) {
	const most = api.MaxLines
	full := strings.Repeat("\n", most)
	for i, x := range []struct {
		blob  string
		hunks []api.PatchHunk
		want  api.Errno
	}{
		{full, []api.PatchHunk{hunkOf(0, 0, "-\n", "+a\n")}, api.OK}, {full, []api.PatchHunk{hunkOf(most-1, most-1, "-\n", "+a")}, api.OK}, {full, []api.PatchHunk{hunkOf(0, 0, "+a\n")}, api.ErrLimit}, {full, []api.PatchHunk{hunkOf(most-1, most-1, "+a\n")}, api.ErrLimit}, {full[1:], []api.PatchHunk{hunkOf(most-1, most-1, "+a")}, api.OK}, {full[1:], []api.PatchHunk{hunkOf(0, 0, "+a\n", "+b\n")}, api.ErrLimit}, {full[1:], []api.PatchHunk{hunkOf(0, 0, "+a\n")}, api.OK}, {full[1:] + "x", []api.PatchHunk{hunkOf(7, 7, "+a\n")}, api.ErrLimit}, {full[2:] + "x", []api.PatchHunk{hunkOf(7, 7, "+a\n")}, api.OK},
		// Only the result counts, not what it is after some of the hunks.
		{full, []api.PatchHunk{hunkOf(0, 0, "+a\n"), hunkOf(most-1, most, "-\n")}, api.OK}, {full, []api.PatchHunk{hunkOf(0, 0, slices.Repeat([]string{"+a\n"}, most/2)...), hunkOf(most/2, most, slices.Repeat([]string{"-\n"}, most/2)...)}, api.OK}, {full, []api.PatchHunk{hunkOf(0, 0, slices.Repeat([]string{"+a\n"}, most/2)...), hunkOf(most/2, most, slices.Repeat([]string{"-\n"}, most/2-1)...)}, api.ErrLimit},
		{full, []api.PatchHunk{hunkOf(0, 0, slices.Repeat([]string{"-\n", "+a\n"}, most)...)}, api.OK}, {full, []api.PatchHunk{hunkOf(0, 0, slices.Repeat([]string{"-\n"}, most)...)}, api.OK}, {"", []api.PatchHunk{hunkOf(0, 0, slices.Repeat([]string{"+a\n"}, most)...)}, api.OK}, {"\n", []api.PatchHunk{hunkOf(0, 0, slices.Repeat([]string{"+a\n"}, most)...)}, api.ErrLimit}, {"\n", []api.PatchHunk{hunkOf(0, 0, append(slices.Repeat([]string{"+a\n"}, most), "-\n")...)}, api.OK},
	} {
		if _, e := compare(t, patchOf(x.hunks...), x.blob); e != x.want {
			t.Errorf("P14.1: Apply of list %d of hunks has the error %d, want %d", i, e, x.want)
		}
	}
}

// TestBytesBetween checks that the bytes of the result count, not those after some of the hunks.
func TestBytesBetween(t *testing.T) {
	long := strings.Repeat("x", api.MaxBlob-1)
	if got, e := compare(t, patchOf(hunkOf(0, 0, "+y"+long[1:]+"\n"), hunkOf(0, 1, "-"+long+"\n")), long+"\n"); e != api.OK || len(got) != api.MaxBlob {
		t.Errorf("P14.1: a replaced line has %d bytes and the error %d", len(got), e)
	}
	if _, e := compare(t, patchOf(hunkOf(0, 0, slices.Repeat([]string{"+" + long + "\n"}, 8)...)), ""); e != api.ErrLimit {
		t.Errorf("P14.1: many long lines have the error %d, want ErrLimit", e)
	}
}

// TestManyHunks checks patches with as many hunks as possible.
func TestManyHunks(t *testing.T) {
	const most = api.MaxLines
	var replaced, removals, additions []api.PatchHunk
	for k := range most {
		replaced = append(replaced, hunkOf(k, k, "-\n"), hunkOf(k+1, k, "+a\n"))
		removals = append(removals, hunkOf(k, 0, "-\n"))
		additions = append(additions, hunkOf(0, k, "+a\n"))
	}
	blob := strings.Repeat("\n", most)
	for i, x := range []struct {
		hunks        []api.PatchHunk
		blob, result string
	}{
		{replaced, blob, strings.Repeat("a\n", most)}, {removals, blob, ""}, {additions, "", strings.Repeat("a\n", most)}, {replaced[:most], blob, strings.Repeat("a\n", most/2) + blob[most/2:]},
	} {
		p := patchOf(x.hunks...)
		if got, e := compare(t, p, x.blob); e != api.OK || got != x.result {
			t.Errorf("P14.1: Apply of list %d of many hunks = %.40q, %d, want %.40q", i, got, e, x.result)
		}
		compareReverse(t, p)
	}
	for _, n := range []int{0, 1, most / 2, most - 1} {
		compare(t, patchOf(replaced...), blob[:n])
		compare(t, patchOf(removals...), blob[:n]+"x\n")
		if got, e := Fits(patchOf(removals...), blob[:n]+"x\n"); got != n || e != api.OK {
			t.Errorf("P14.3: Fits of many hunks = %d, %d, want %d", got, e, n)
		}
	}
}

// TestOrderOfErrors checks all combinations of errors of a patch, of a blob and of the application.
func TestOrderOfErrors(t *testing.T) {
	const most = api.MaxLines
	lines, bytes := strings.Repeat("\n", most), strings.Repeat("x", api.MaxBlob)
	blobs := []struct {
		s  string
		ok bool
	}{{"", true}, {"a\n", true}, {"a", true}, {lines, true}, {lines[1:] + "x", true}, {bytes, true}, {bytes[1:] + "\n", true}, {lines + "x", false}, {lines + "\n", false}, {bytes + "x", false}, {bytes + "\n", false}, {strings.Repeat("a\n", api.MaxBlob), false}}
	hunks := []struct {
		list []api.PatchHunk
		want api.Errno // of unified.Check
	}{
		{nil, api.OK}, {[]api.PatchHunk{hunkOf(0, 0, "-a\n")}, api.OK}, {[]api.PatchHunk{hunkOf(0, 0, "+b\n")}, api.OK}, {[]api.PatchHunk{hunkOf(0, 0, "+b")}, api.OK}, {[]api.PatchHunk{hunkOf(1, 1, "+b\n")}, api.OK}, {[]api.PatchHunk{hunkOf(0, 0, "+"+bytes+"\n")}, api.OK}, {[]api.PatchHunk{hunkOf(0, 0, "+"+bytes)}, api.OK}, {[]api.PatchHunk{hunkOf(0, 0, "+b\n"), hunkOf(1, 2, "-c\n")}, api.OK}, {[]api.PatchHunk{hunkOf(0, 0, "+"+bytes+"\n"), hunkOf(1, 2, "-c\n")}, api.OK}, {[]api.PatchHunk{hunkOf(most-1, most-1, "+b\n")}, api.OK}, {[]api.PatchHunk{hunkOf(0, 0, "-\n", "+b\n", "+c")}, api.OK},
		{[]api.PatchHunk{hunkOf(0, 0, " a\n")}, api.ErrHunk}, {[]api.PatchHunk{hunkOf(most, most, "+b\n")}, api.ErrHunk}, {[]api.PatchHunk{hunkOf(0, 0, "+"+strings.Repeat("x", api.MaxText))}, api.ErrLimit}, {[]api.PatchHunk{hunkOf(0, 1, "+"+strings.Repeat("x", api.MaxText))}, api.ErrHunk},
	}
	found := map[api.Errno]int{}
	for _, x := range hunks {
		for _, b := range blobs {
			for _, p := range []api.Patch{{OldName: "a", NewName: "b"}, {OldName: "", NewName: "b"}, {OldName: "a", NewName: strings.Repeat("n", api.MaxPath+1)}} {
				p.Hunks = x.list
				want := x.want
				switch {
				case p.OldName == "" || len(p.NewName) > api.MaxPath:
					want = api.ErrName
				case want == api.OK && !b.ok:
					want = api.ErrLimit
				}
				s, e := compare(t, p, b.s)
				if want != api.OK && (e != want || s != "") {
					t.Errorf("P14.1: Apply(%.60v, %.9q) = %.9q, %d, want the error %d", p, b.s, s, e, want)
				}
				if n, f := Fits(p, b.s); f != want || f != api.OK && n != 0 {
					t.Errorf("P14.3: Fits(%.60v, %.9q) = %d, %d, want the error %d", p, b.s, n, f, want)
				}
				found[e]++
			}
		}
	}
	if len(found) != 5 {
		t.Errorf("the errors found are %v", found)
	}
}

// TestApplyBeforeLimit checks results that are too large and no list of lines, or of which a later hunk does not fit.
func TestApplyBeforeLimit(t *testing.T) {
	const most = api.MaxLines
	lines, bytes := strings.Repeat("\n", most), strings.Repeat("x", api.MaxBlob)
	for i, x := range []struct {
		hunks []api.PatchHunk
		blob  string
		want  api.Errno
	}{
		{[]api.PatchHunk{hunkOf(0, 0, "+b\n")}, lines, api.ErrLimit}, {[]api.PatchHunk{hunkOf(0, 0, "+b")}, lines, api.ErrApply}, {[]api.PatchHunk{hunkOf(0, 0, "+b\n"), hunkOf(9, 10, "-b\n")}, lines, api.ErrApply}, {[]api.PatchHunk{hunkOf(1, 1, "+b\n")}, bytes, api.ErrApply}, {[]api.PatchHunk{hunkOf(0, 0, "+b\n")}, bytes, api.ErrLimit}, {[]api.PatchHunk{hunkOf(0, 0, "+b\n"), hunkOf(2, 3, "+c\n")}, bytes, api.ErrApply}, {[]api.PatchHunk{hunkOf(0, 0, "+"+bytes)}, "a\n", api.ErrApply}, {[]api.PatchHunk{hunkOf(1, 1, "+"+bytes)}, "a\n", api.ErrLimit}, {[]api.PatchHunk{hunkOf(1, 1, "+"+bytes)}, "a", api.ErrApply},
	} {
		if s, e := compare(t, patchOf(x.hunks...), x.blob); e != x.want || s != "" {
			t.Errorf("P14.1: Apply of list %d of hunks = %.9q, %d, want the error %d", i, s, e, x.want)
		}
	}
}

// TestMake checks the patches of the largest blobs.
func TestMake(t *testing.T) {
	const most = api.MaxLines
	rest := strings.Repeat("x", api.MaxBlob-2*most)
	for _, x := range [][2]string{
		{"", rest + strings.Repeat("a\n", most)}, {rest + strings.Repeat("a\n", most), rest + strings.Repeat("b\n", most)}, {strings.Repeat("a\nb\n", most/2), strings.Repeat("b\na\n", most/2)}, {strings.Repeat("a\nb\n", most/2), strings.Repeat("a\n", most/2)}, {strings.Repeat("x", api.MaxBlob), strings.Repeat("y", api.MaxBlob)},
	} {
		for _, context := range []int{0, 1, api.MaxContext} {
			for _, blobs := range [][2]string{x, {x[1], x[0]}} {
				p, e := unified.Make("a", "b", blobs[0], blobs[1], context, false)
				if got, f := compare(t, p, blobs[0]); e != api.OK || f != api.OK || got != blobs[1] {
					t.Errorf("P14.4: Apply of a large patch with %d hunks = %.40q, %d, want %.40q", len(p.Hunks), got, f, blobs[1])
				}
				compareReverse(t, p)
			}
		}
	}
}

// TestSizes checks R1 for patches and blobs far larger than they may be.
func TestSizes(t *testing.T) {
	long := strings.Repeat("a\n", api.MaxText)
	for _, h := range []api.PatchHunk{{}, hunkOf(0, 0, "-a\n"), hunkOf(0, 0, "-"+long), hunkOf(0, 0, slices.Repeat([]string{"-a\n"}, 1<<20)...), hunkOf(0, 0, slices.Repeat([]string{" a"}, 1<<20)...)} {
		for _, n := range []int{1, 1<<18/(1+len(h.Lines)) + 2} {
			p := patchOf(slices.Repeat([]api.PatchHunk{h}, n)...)
			for _, blob := range []string{"", "a\n", long} {
				want := argumentError(p, blob)
				s, e := Apply(p, blob)
				k, f := Fits(p, blob)
				if f != want || want != api.OK && (e != want || s != "" || k != 0) {
					t.Errorf("chapter 14: %d hunks of %d lines have the errors %d and %d, want %d", n, len(h.Lines), e, f, want)
				}
			}
			q, e := Reverse(p)
			if want := unified.Check(p); e != want || want != api.OK && !testkit.SamePatch(q, api.Patch{}) {
				t.Errorf("P14.2: Reverse of %d hunks of %d lines has the error %d, want %d", n, len(h.Lines), e, want)
			}
		}
	}
}
