package scan

import (
	"math"
	"slices"
	"strconv"
	"strings"
	"testing"

	"mergelens/testkit"
)

// wordForm is the definition of a word, taken from the chapter sentence by sentence.
func wordForm(s string) string {
	plain := s != ""
	quoted := `"`
	for _, b := range []byte(s) {
		if b < 33 || b > 126 || b == '"' || b == '\\' {
			plain = false
		}
		switch {
		case b == '"':
			quoted += `\"`
		case b == '\\':
			quoted += `\\`
		case b == 10:
			quoted += `\n`
		case b == 9:
			quoted += `\t`
		case b < 32, b > 126:
			digits := "00" + strconv.FormatInt(int64(b), 8)
			quoted += `\` + digits[len(digits)-3:]
		default:
			quoted += string(rune(b))
		}
	}
	if plain {
		return s
	}
	return quoted + `"`
}

// shortStrings lists all strings of at most two bytes.
func shortStrings() []string {
	list := []string{""}
	for a := range 256 {
		list = append(list, string([]byte{byte(a)}))
		for b := range 256 {
			list = append(list, string([]byte{byte(a), byte(b)}))
		}
	}
	return list
}

func TestQuote(t *testing.T) {
	for _, c := range []struct{ s, want string }{
		{"", `""`}, {"a b", `"a b"`}, {"x/y", "x/y"}, {"!", "!"}, {"~", "~"}, {"#[]^'", "#[]^'"}, {" ", `" "`},
		{`a"`, `"a\""`}, {`\`, `"\\"`}, {"\n\t", `"\n\t"`}, {"\r", `"\015"`}, {"\x00\x07\x08\x1f", `"\000\007\010\037"`},
		{"\x7f\x80\xff", `"\177\200\377"`}, {"é", `"\303\251"`}, {`\n`, `"\\n"`}, {"a\x001", `"a\0001"`},
	} {
		if got := Quote(c.s); got != c.want {
			t.Errorf("P1.3: Quote(%q) = %s, want %s", c.s, got, c.want)
		}
	}
	for _, s := range shortStrings() {
		if got := Quote(s); got != wordForm(s) {
			t.Fatalf("P1.3: Quote(%q) = %s, want %s", s, got, wordForm(s))
		}
	}
}

func TestUnquote(t *testing.T) {
	for _, c := range []struct {
		s    string
		at   int
		want string
		end  int
	}{
		{"abc", 0, "abc", 3}, {"abc", 1, "bc", 3}, {"abc", 2, "c", 3}, {"a b", 0, "a", 1}, {"a b", 2, "b", 3}, {`ab"c"`, 0, "ab", 2}, {`a\`, 0, "a", 1}, {"a\n", 0, "a", 1}, {"a\x7f", 0, "a", 1}, {"a\xc3", 0, "a", 1},
		{`""`, 0, "", 2}, {`"" `, 0, "", 2}, {`"""`, 0, "", 2}, {`"a b"c`, 0, "a b", 5}, {`x "a b"`, 2, "a b", 7},
		{`"\""`, 0, `"`, 4}, {`"\\"`, 0, `\`, 4}, {`"\\\""`, 0, `\"`, 6}, {`"\\""`, 0, `\`, 4}, {`"\n\t"`, 0, "\n\t", 6}, {`"\000\177\377"`, 0, "\x00\x7f\xff", 14}, {`"\0011"`, 0, "\x011", 7},
	} {
		if s, end, ok := Unquote(c.s, c.at); s != c.want || end != c.end || !ok {
			t.Errorf("P1.3: Unquote(%q, %d) = %q, %d, %v, want %q, %d", c.s, c.at, s, end, ok, c.want, c.end)
		}
	}
}

func TestUnquoteInvalid(t *testing.T) {
	for _, c := range []struct {
		s  string
		at int
	}{
		{"", 0}, {"", 1}, {"", -1}, {"a", 1}, {"a", 2}, {"a", -1}, {"a", math.MaxInt}, {"a", math.MinInt},
		{" a", 0}, {"\na", 0}, {"\ta", 0}, {`\a`, 0}, {"\x7f", 0}, {"\xff", 0}, {"\x00", 0},
		{`"`, 0}, {`"a b`, 0}, {`"\`, 0}, {`"\"`, 0}, {`"\n`, 0}, {`"\1`, 0}, {`"\12`, 0}, {`"\001`, 0},
		{`"a"`, 0}, {`"a/b"`, 0}, {`"~"`, 0}, // quotes that are not needed
		{`"a" b"`, 0},
		{`"\x41 "`, 0}, {`"\a "`, 0}, {`"\N"`, 0}, {`"\r"`, 0}, {`"\ "`, 0}, {"\"\\\n\"", 0}, // no escapes
		{`"\101 "`, 0}, {`"\040"`, 0}, {`"\012"`, 0}, {`"\011"`, 0}, {`"\042"`, 0}, {`"\134"`, 0}, // escapes of other bytes
		{`"\400 "`, 0}, {`"\777"`, 0}, {`"\1777"x"`, 1}, {`"\01"`, 0}, {`"\1"`, 0}, {`"\08 "`, 0}, {`"\008"`, 0}, {`"\800"`, 0}, {`"\0/0"`, 0},
		{"\" \n\"", 0}, {"\"\t\"", 0}, {"\"\x01\"", 0}, {"\"\x7f\"", 0}, {"\"\xff \"", 0}, // bytes that want an escape
	} {
		if s, end, ok := Unquote(c.s, c.at); s != "" || end != 0 || ok {
			t.Errorf("P1.3: Unquote(%q, %d) = %q, %d, %v", c.s, c.at, s, end, ok)
		}
	}
}

// TestUnquoteOfAllWords checks the last part of P1.5, and that a word ends where P1.3 says, whatever follows it.
func TestUnquoteOfAllWords(t *testing.T) {
	list := append(shortStrings(), strings.Repeat("a", 5000), strings.Repeat("\x00\\\"\n ", 5000))
	for _, s := range list {
		w := Quote(s)
		if got, end, ok := Unquote(w, 0); got != s || end != len(w) || !ok {
			t.Fatalf("P1.5: Unquote(Quote(%q), 0) = %q, %d, %v", s, got, end, ok)
		}
		for _, before := range []string{"", "a ", "\""} {
			for _, after := range []string{" ", "\"", "\\", "\n"} {
				got, end, ok := Unquote(before+w+after, len(before))
				if got != s || end != len(before+w) || !ok {
					t.Fatalf("P1.3: Unquote(%q, %d) = %q, %d, %v", before+w+after, len(before), got, end, ok)
				}
			}
		}
	}
}

// TestUnquoteOfAllTexts checks that Unquote reads a word exactly if some string's word is there.
func TestUnquoteOfAllTexts(t *testing.T) {
	words := map[string]string{} // the strings of the quoted words of at most six bytes that the texts below may begin with
	testkit.Texts("\"\\\nn1 7\x01", 4, func(s string) {
		if w := wordForm(s); w[0] == '"' && len(w) <= 6 {
			words[w] = s
		}
	})
	for b := range 256 {
		s := string([]byte{byte(b)})
		if w := wordForm(s); w[0] == '"' && len(w) <= 6 {
			words[w] = s
		}
	}
	testkit.Texts("\"\\n1 7\x01", 6, func(s string) {
		want, wantEnd, wantOK := "", 0, false
		for end := 1; end <= len(s) && !wantOK; end++ {
			if w, ok := words[s[:end]]; ok {
				want, wantEnd, wantOK = w, end, true
			}
		}
		if plain := len(s) - len(strings.TrimLeft(s, "n17")); plain > 0 {
			want, wantEnd, wantOK = s[:plain], plain, true
		}
		if got, end, ok := Unquote(s, 0); got != want || end != wantEnd || ok != wantOK {
			t.Fatalf("P1.3: Unquote(%q, 0) = %q, %d, %v, want %q, %d, %v", s, got, end, ok, want, wantEnd, wantOK)
		}
	})
}

func TestWords(t *testing.T) {
	for _, c := range []struct {
		s    string
		want []string
	}{
		{"", nil}, {"a", []string{"a"}}, {"log 1 2", []string{"log", "1", "2"}}, {`""`, []string{""}}, {`"" ""`, []string{"", ""}}, {`log "a b" "" 7`, []string{"log", "a b", "", "7"}},
		{`" " " "`, []string{" ", " "}}, {`"a\"b" "\n"`, []string{"a\"b", "\n"}}, {`"\377" ~`, []string{"\xff", "~"}},
	} {
		if got, ok := Words(c.s); !ok || !slices.Equal(got, c.want) {
			t.Errorf("P1.4: Words(%q) = %q, %v, want %q", c.s, got, ok, c.want)
		}
	}
	for _, s := range []string{" ", "  ", "a ", " a", "a  b", "a b ", `a"b"`, `a"b c"`, `"a b"c`, `"a b""c d"`, `"" "`, "a\tb", "a\nb", "a\n", "\n", `\`, `a \`, `"a"`, `x "a"`, `x "\101 "`, `a "b`, "a \xff", "a\x00b"} {
		if got, ok := Words(s); ok || len(got) != 0 {
			t.Errorf("P1.4: Words(%q) = %q, %v", s, got, ok)
		}
	}
}

// TestWordsBack checks Words on the joined words of lists of strings, and on texts that lack or repeat a space.
func TestWordsBack(t *testing.T) {
	for _, list := range [][]string{{"a"}, {"a", ""}, {"", "a"}, {" ", "\"", "\\"}, {"é", "\n", "\t", "\x00", "~"}, slices.Repeat([]string{"x", "y z"}, 3000), {strings.Repeat(" ", 100000), strings.Repeat("b", 100000)}} {
		words := make([]string, len(list))
		for i, s := range list {
			words[i] = Quote(s)
		}
		text := strings.Join(words, " ")
		if got, ok := Words(text); !ok || !slices.Equal(got, list) {
			t.Errorf("P1.4: Words(%.40q) = %.40q, %v", text, got, ok)
		}
		for _, bad := range []string{" " + text, text + " ", text + "  a", text + " \"", text + "\x80"} {
			if got, ok := Words(bad); ok || len(got) != 0 {
				t.Errorf("P1.4: Words(%.40q) = %.40q, %v", bad, got, ok)
			}
		}
	}
}

// TestWordsOfAllTexts checks that Words accepts exactly the texts that the words of its result make up.
func TestWordsOfAllTexts(t *testing.T) {
	accepted := map[string]bool{}
	testkit.Texts("\"\\n ", 7, func(s string) {
		got, ok := Words(s)
		if !ok {
			if len(got) != 0 {
				t.Fatalf("P1.4: Words(%q) = %q, false", s, got)
			}
			return
		}
		accepted[s] = true
		words := make([]string, len(got))
		for i, w := range got {
			words[i] = wordForm(w)
		}
		if strings.Join(words, " ") != s {
			t.Fatalf("P1.4: Words(%q) = %q", s, got)
		}
	})
	parts := []string{""}
	testkit.Texts("\"\\n \n", 3, func(s string) { parts = append(parts, wordForm(s)) })
	for _, a := range parts[1:] {
		for _, b := range parts {
			text := a
			if b != "" {
				text = a + " " + b
			}
			if len(text) <= 7 && !accepted[text] {
				t.Fatalf("P1.4: Words(%q) is false", text)
			}
		}
	}
}
