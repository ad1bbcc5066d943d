package text

import (
	"slices"
	"strings"
	"testing"

	"mergelens/api"
	"mergelens/testkit"
)

// lists calls f with every list of at most length of the strings.
func lists(strs []string, length int, f func(list []string)) {
	level := [][]string{nil}
	for range length + 1 {
		var next [][]string
		for _, list := range level {
			f(list)
			for _, s := range strs {
				next = append(next, append(slices.Clone(list), s))
			}
		}
		level = next
	}
}

// linesOf is the definition of the lines of a blob, taken from the chapter byte by byte.
func linesOf(blob string) []string {
	var lines []string
	line := ""
	for _, b := range []byte(blob) {
		line += string([]byte{b})
		if b == 10 {
			lines = append(lines, line)
			line = ""
		}
	}
	if line != "" {
		lines = append(lines, line)
	}
	return lines
}

// listForm is the definition of a list of lines, taken from the chapter.
func listForm(list []string) bool {
	for i, s := range list {
		feeds := strings.Count(s, "\n")
		switch {
		case s == "", feeds > 1:
			return false
		case feeds == 1 && s[len(s)-1] != 10:
			return false
		case feeds == 0 && i != len(list)-1:
			return false
		}
	}
	return true
}

func TestSplit(t *testing.T) {
	for _, c := range []struct {
		blob string
		want []string
	}{
		{"", nil}, {"a", []string{"a"}}, {"a\n", []string{"a\n"}}, {"\n", []string{"\n"}}, {"\n\n", []string{"\n", "\n"}}, {"\na", []string{"\n", "a"}},
		{"a\n\nb", []string{"a\n", "\n", "b"}}, {"a\n\nb\n", []string{"a\n", "\n", "b\n"}}, {" \n\t", []string{" \n", "\t"}},
		{"a\rb\r\nc\r", []string{"a\rb\r\n", "c\r"}}, {"\v\f\u0085\u2028\u2029\n\x00", []string{"\v\f\u0085\u2028\u2029\n", "\x00"}}, // only byte 10 ends a line
		{"\xff\n\xc3\n\xa9", []string{"\xff\n", "\xc3\n", "\xa9"}},
	} {
		if got, e := Split(c.blob); e != api.OK || !slices.Equal(got, c.want) {
			t.Errorf("P2.1: Split(%q) = %q, %d, want %q", c.blob, got, e, c.want)
		}
	}
}

// TestSplitOfAllTexts compares Split and Check with the definition, and checks the first part of P2.4.
func TestSplitOfAllTexts(t *testing.T) {
	testkit.Texts("\na\r\x8a", 7, func(s string) {
		got, e := Split(s)
		if e != api.OK || !slices.Equal(got, linesOf(s)) || Check(s) != api.OK {
			t.Fatalf("P2.1: Split(%q) = %q, %d, Check is %d, want %q", s, got, e, Check(s), linesOf(s))
		}
		if n := countLines(s); n != len(got) {
			t.Fatalf("P2.1: countLines(%q) = %d, want %d", s, n, len(got))
		}
		if back, e := Join(got); e != api.OK || back != s {
			t.Fatalf("P2.4: Join(Split(%q)) = %q, %d", s, back, e)
		}
	})
	for b := range 256 {
		s := "a" + string([]byte{byte(b)}) + "b"
		if got, e := Split(s); e != api.OK || !slices.Equal(got, linesOf(s)) {
			t.Errorf("P2.1: Split(%q) = %q, %d, want %q", s, got, e, linesOf(s))
		}
	}
}

func TestSplitLimits(t *testing.T) {
	feeds := strings.Repeat("\n", api.MaxLines)
	for _, c := range []struct {
		name string
		blob string
		want api.Errno
	}{
		{"MaxLines-1 lines", feeds[1:], api.OK}, {"MaxLines-1 lines and a last one", feeds[1:] + "x", api.OK}, {"MaxLines lines", feeds, api.OK},
		{"MaxLines lines and a last one", feeds + "x", api.ErrLimit}, {"MaxLines+1 lines", feeds + "\n", api.ErrLimit}, {"2*MaxLines lines", feeds + feeds, api.ErrLimit},
		{"MaxBlob bytes", strings.Repeat("x", api.MaxBlob), api.OK}, {"MaxBlob bytes, ended", strings.Repeat("x", api.MaxBlob-1) + "\n", api.OK},
		{"MaxBlob+1 bytes", strings.Repeat("x", api.MaxBlob+1), api.ErrLimit}, {"MaxBlob+1 bytes, ended", strings.Repeat("x", api.MaxBlob) + "\n", api.ErrLimit},
		{"MaxBlob bytes, half of the runes", strings.Repeat("é", api.MaxBlob/2), api.OK}, {"2*MaxBlob bytes, MaxBlob runes", strings.Repeat("é", api.MaxBlob), api.ErrLimit},
		{"MaxBlob bytes in MaxLines lines", strings.Repeat("x", api.MaxBlob-api.MaxLines) + feeds, api.OK}, {"MaxBlob+1 bytes in MaxLines lines", strings.Repeat("x", api.MaxBlob-api.MaxLines+1) + feeds, api.ErrLimit},
		{"MaxBlob line feeds", strings.Repeat("\n", api.MaxBlob), api.ErrLimit}, {"both limits exceeded", strings.Repeat("x\n", api.MaxBlob), api.ErrLimit},
	} {
		lines, e := Split(c.blob)
		if e != c.want || Check(c.blob) != c.want {
			t.Errorf("P2.1: %s: Split is %d, Check %d, want %d", c.name, e, Check(c.blob), c.want)
		}
		if e != api.OK {
			if len(lines) != 0 {
				t.Errorf("P2.1: %s: %d lines with an error", c.name, len(lines))
			}
			continue
		}
		if back, e := Join(lines); e != api.OK || back != c.blob {
			t.Errorf("P2.4: %s: Join(Split(b)) has %d bytes, error %d", c.name, len(back), e)
		}
	}
}

func TestJoin(t *testing.T) {
	for _, c := range []struct {
		lines []string
		want  string
	}{
		{nil, ""}, {[]string{}, ""}, {[]string{"a"}, "a"}, {[]string{"a\n"}, "a\n"}, {[]string{"\n"}, "\n"}, {[]string{"\n", "\n"}, "\n\n"},
		{[]string{"a\n", "\n", "b"}, "a\n\nb"}, {[]string{"a\n", "a\n", "a\n"}, "a\na\na\n"}, {[]string{"a\r\n", "\x00\r"}, "a\r\n\x00\r"}, {[]string{"\xff\n", "\xc3"}, "\xff\n\xc3"},
	} {
		if got, e := Join(c.lines); e != api.OK || got != c.want {
			t.Errorf("P2.2: Join(%q) = %q, %d, want %q", c.lines, got, e, c.want)
		}
	}
	for _, list := range [][]string{
		{""}, {"", ""}, {"", "a"}, {"a\n", ""}, {"a\n", "", "b"}, // empty elements
		{"a", "b"}, {"a", "b\n"}, {"a\n", "b", "c\n"}, {"a\r", "b"}, // line feeds that are missing
		{"a\nb"}, {"\na"}, {"a\nb\n"}, {"\n\n"}, {"a\n\n"}, {"a\n", "b\nc"}, {"a\nb", "c\n"}, // line feeds before the end
	} {
		if got, e := Join(list); e != api.ErrArg || got != "" {
			t.Errorf("P2.2: Join(%q) = %q, %d, want ErrArg", list, got, e)
		}
	}
}

// TestJoinOfAllLists compares Join with the definition, and checks the second part of P2.4.
func TestJoinOfAllLists(t *testing.T) {
	var strs []string
	testkit.Texts("\na", 3, func(s string) { strs = append(strs, s) })
	strs = append(strs, "\r\n", "\x8a")
	lists(strs, 3, func(list []string) {
		got, e := Join(list)
		if !listForm(list) {
			if e != api.ErrArg || got != "" {
				t.Fatalf("P2.2: Join(%q) = %q, %d, want ErrArg", list, got, e)
			}
			return
		}
		if e != api.OK || got != strings.Join(list, "") {
			t.Fatalf("P2.2: Join(%q) = %q, %d", list, got, e)
		}
		if back, e := Split(got); e != api.OK || !slices.Equal(back, list) {
			t.Fatalf("P2.4: Split(Join(%q)) = %q, %d", list, back, e)
		}
	})
}

func TestJoinLimits(t *testing.T) {
	full := slices.Repeat([]string{"\n"}, api.MaxLines)
	// wide has MaxBlob bytes in MaxLines lines.
	wide := slices.Repeat([]string{strings.Repeat("x", api.MaxBlob/api.MaxLines-1) + "\n"}, api.MaxLines)
	huge := strings.Repeat("x", api.MaxBlob)
	for _, c := range []struct {
		name  string
		lines []string
		want  api.Errno
	}{
		{"MaxLines lines", full, api.OK}, {"MaxLines lines, the last one not ended", with(full[1:], "x"), api.OK},
		{"a line more", with(full, "\n"), api.ErrLimit}, {"a line more, not ended", with(full, "x"), api.ErrLimit}, {"twice as many lines", with(full, full...), api.ErrLimit},
		{"MaxBlob bytes in a line", []string{huge}, api.OK}, {"MaxBlob bytes in two lines", []string{"\n", huge[1:]}, api.OK}, {"MaxBlob bytes in MaxLines lines", wide, api.OK},
		{"a byte more in a line", []string{huge + "x"}, api.ErrLimit}, {"a line feed more", []string{huge + "\n"}, api.ErrLimit}, {"a byte more in two lines", []string{"\n", huge}, api.ErrLimit},
		{"a byte more at the end of many lines", with(wide[1:], "x"+wide[0]), api.ErrLimit}, {"a byte more at the beginning of many lines", with([]string{"x" + wide[0]}, wide[1:]...), api.ErrLimit},
		{"a large line before others", []string{huge + "\n", "y"}, api.ErrLimit}, {"many large lines", slices.Repeat([]string{huge + "\n"}, 100), api.ErrLimit}, {"both limits exceeded", with(wide, wide...), api.ErrLimit},
		{"too many lines, one of them not ended", with(full, "x", "y"), api.ErrArg}, {"too many lines, the first one empty", with([]string{""}, full...), api.ErrArg}, {"too many lines, the last one empty", with(full, ""), api.ErrArg}, {"too many lines, a line feed too much", with(full, "\n\n"), api.ErrArg},
		{"too many empty strings", make([]string, api.MaxLines+1), api.ErrArg},
		{"too many bytes, two lines not ended", []string{huge + "x", "y"}, api.ErrArg}, {"too many bytes, then an empty line", []string{huge + "\n", ""}, api.ErrArg}, {"too many bytes in lines", []string{huge + "\n" + huge}, api.ErrArg},
	} {
		got, e := Join(c.lines)
		if e != c.want {
			t.Errorf("P2.2: %s: error %d, want %d", c.name, e, c.want)
		}
		if e != api.OK {
			if got != "" {
				t.Errorf("P2.2: %s: %d bytes with error %d", c.name, len(got), e)
			}
			continue
		}
		if back, e := Split(got); e != api.OK || !slices.Equal(back, c.lines) || got != strings.Join(c.lines, "") {
			t.Errorf("P2.4: %s: Split(Join(l)) has %d lines, error %d", c.name, len(back), e)
		}
	}
}

// with returns a new list of the strings of list and more.
func with(list []string, more ...string) []string {
	return slices.Concat(list, more)
}

func TestBareAndEnded(t *testing.T) {
	for _, c := range []struct {
		line, bare string
		ended      bool
	}{
		{"", "", false}, {"a", "a", false}, {"a\n", "a", true}, {"\n", "", true}, {"\n\n", "\n", true}, {"a\n\n", "a\n", true},
		{"\na", "\na", false}, {"a\nb\n", "a\nb", true}, {"a\r\n", "a\r", true}, {"a\n\r", "a\n\r", false}, {"a\r", "a\r", false}, {" \n", " ", true}, {"a \t\x00", "a \t\x00", false}, {"\xff\n", "\xff", true},
	} {
		if got := Bare(c.line); got != c.bare {
			t.Errorf("P2.3: Bare(%q) = %q, want %q", c.line, got, c.bare)
		}
		if got := Ended(c.line); got != c.ended {
			t.Errorf("P2.3: Ended(%q) = %v", c.line, got)
		}
	}
	testkit.Texts("\na\r\x8a", 6, func(s string) {
		want, ended := s, len(s) > 0 && s[len(s)-1] == 10
		if ended {
			want = s[:len(s)-1]
		}
		if Bare(s) != want || Ended(s) != ended {
			t.Fatalf("P2.3: Bare(%q) = %q, Ended is %v", s, Bare(s), Ended(s))
		}
	})
	for b := range 256 {
		s := "a" + string([]byte{byte(b)})
		if Ended(s) != (b == 10) || (Bare(s) == "a") != (b == 10) {
			t.Errorf("P2.3: Bare(%q) = %q, Ended is %v", s, Bare(s), Ended(s))
		}
	}
	// Neither function has a limit.
	long := strings.Repeat("x\n", api.MaxBlob)
	if !Ended(long) || Bare(long) != long[:len(long)-1] || Ended(long[1:]+"y") {
		t.Error("P2.3: a line above the limits")
	}
}
