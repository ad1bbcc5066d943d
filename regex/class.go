package regex

import (
	"strings"

	"mergelens/api"
)

// byteSet is a set of bytes: bit b%64 of element b/64 says whether it has the byte b.
type byteSet [4]uint64

// span returns the set of the bytes from first to last.
func span(first, last byte) byteSet {
	var set byteSet
	for b := int(first); b <= int(last); b++ {
		set[b/64] |= 1 << (b % 64)
	}
	return set
}

// with returns the union of two sets.
func (s byteSet) with(other byteSet) byteSet {
	for i := range s {
		s[i] |= other[i]
	}
	return s
}

// complement returns the set of the bytes that are not in s.
func (s byteSet) complement() byteSet {
	for i := range s {
		s[i] = ^s[i]
	}
	return s
}

// addSet appends the node of a set.
func (p *parser) addSet(set byteSet) int {
	return p.add(api.Node{Kind: api.NodeSet, Set: set})
}

// class reads a class in brackets.
func (p *parser) class() int {
	p.at++
	negative := p.take('^')
	set := p.item() // without a look at its first byte: here a `]` does not end the class
	for !p.take(']') {
		set = set.with(p.item())
	}
	if negative {
		set = set.complement()
	}
	return p.addSet(set)
}

// item reads an item of a class.
func (p *parser) item() byteSet {
	if strings.HasPrefix(p.text[p.at:], "[:") {
		return p.namedItem()
	}
	first := p.next()
	last := first
	if rest := p.text[p.at:]; len(rest) > 1 && rest[0] == '-' && rest[1] != ']' {
		last = rest[1]
		p.at += 2
	}
	if last < first {
		panic(api.ErrPattern)
	}
	return span(first, last)
}

// namedItem reads a name between `[:` and `:]`.
func (p *parser) namedItem() byteSet {
	name, _, closed := strings.Cut(p.text[p.at+2:], ":]")
	set, known := named(name)
	if !closed || !known {
		panic(api.ErrPattern)
	}
	p.at += len("[:") + len(name) + len(":]")
	return set
}

// named returns the set of a name, and false if there is no such name.
func named(name string) (byteSet, bool) {
	upper, lower, digit := span('A', 'Z'), span('a', 'z'), span('0', '9')
	letter := upper.with(lower)
	alnum := letter.with(digit)
	switch name {
	case "alpha":
		return letter, true
	case "digit":
		return digit, true
	case "alnum":
		return alnum, true
	case "upper":
		return upper, true
	case "lower":
		return lower, true
	case "space":
		return span(9, 13).with(span(' ', ' ')), true
	case "punct":
		// Of the bytes 33 to 126, those that are in the complement of alnum.
		return alnum.with(span(33, 126).complement()).complement(), true
	}
	return byteSet{}, false
}
