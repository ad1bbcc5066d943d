package scan

// Quote returns the word for a string.
func Quote(s string) string {
	if s != "" && plainEnd(s, 0) == len(s) {
		return s
	}
	word := []byte{'"'}
	for i := 0; i < len(s); i++ {
		word = appendQuoted(word, s[i])
	}
	return string(append(word, '"'))
}

// isPlain says whether a byte may stand in a word without quotes.
func isPlain(b byte) bool {
	return b > 32 && b < 127 && b != '"' && b != '\\'
}

// plainEnd returns the offset after the plain bytes that begin at the offset at.
func plainEnd(s string, at int) int {
	for at < len(s) && isPlain(s[at]) {
		at++
	}
	return at
}

// appendQuoted appends the form that a byte has between quotes.
func appendQuoted(word []byte, b byte) []byte {
	switch {
	case b == '"' || b == '\\':
		return append(word, '\\', b)
	case b == '\n':
		return append(word, '\\', 'n')
	case b == '\t':
		return append(word, '\\', 't')
	case b < 32 || b > 126:
		return append(word, '\\', '0'+b>>6, '0'+b>>3&7, '0'+b&7)
	}
	return append(word, b)
}

// Unquote reads a word.
func Unquote(s string, at int) (string, int, bool) {
	if at < 0 || at >= len(s) {
		return "", 0, false
	}
	if s[at] == '"' {
		return quoted(s, at)
	}
	end := plainEnd(s, at)
	if end == at {
		return "", 0, false
	}
	return s[at:end], end, true
}

// quoted reads a word whose opening quote is at the offset at.
func quoted(s string, at int) (string, int, bool) {
	var read []byte
	i := at + 1
	for i < len(s) && s[i] != '"' {
		b, next, ok := quotedByte(s, i)
		if !ok {
			return "", 0, false
		}
		read = append(read, b)
		i = next
	}
	if i >= len(s) {
		return "", 0, false
	}
	text, end := string(read), i+1
	// A string has one word only: this refuses needless quotes, needless escapes and bytes that want an escape.
	if Quote(text) != s[at:end] {
		return "", 0, false
	}
	return text, end, true
}

// quotedByte reads a byte of a quoted word, which may be written as an escape, and returns the offset after it.
func quotedByte(s string, at int) (byte, int, bool) {
	if s[at] != '\\' {
		return s[at], at + 1, true
	}
	if at+1 >= len(s) {
		return 0, 0, false
	}
	switch b := s[at+1]; b {
	case '"', '\\':
		return b, at + 2, true
	case 'n':
		return '\n', at + 2, true
	case 't':
		return '\t', at + 2, true
	}
	return octal(s, at+1)
}

// octal reads a byte that is written as three octal digits.
func octal(s string, at int) (byte, int, bool) {
	if len(s)-at < 3 {
		return 0, 0, false
	}
	n := 0
	for _, b := range []byte(s[at : at+3]) {
		if b < '0' || b > '7' {
			return 0, 0, false
		}
		n = 8*n + int(b-'0')
	}
	if n > 255 {
		return 0, 0, false
	}
	return byte(n), at + 3, true
}

// reader reads the words of a text one by one.
type reader struct {
	text string
	at   int
}

// word reads the word at the reader's offset.
func (r *reader) word() (string, bool) {
	w, next, ok := Unquote(r.text, r.at)
	if !ok {
		return "", false
	}
	r.at = next
	return w, true
}

// Words reads all words of a text.
func Words(s string) ([]string, bool) {
	if s == "" {
		return nil, true
	}
	r := &reader{text: s}
	next := r.word
	var words []string
	for {
		w, ok := next()
		if !ok {
			return nil, false
		}
		words = append(words, w)
		if r.at == len(s) {
			return words, true
		}
		if s[r.at] != ' ' {
			return nil, false
		}
		r.at++
	}
}
