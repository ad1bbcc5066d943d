package regex

import (
	"mergelens/api"
	"mergelens/scan"
)

// unbound is the Max of a repetition without a bound.
const unbound = -1

// Parse returns the nodes of a pattern.
func Parse(pattern string) (nodes []api.Node, e api.Errno) {
	if len(pattern) > api.MaxPattern {
		return nil, api.ErrLimit
	}
	p := &parser{text: pattern}
	defer func() {
		if failure := recover(); failure != nil {
			nodes, e = nil, api.ErrPattern
			if code, ok := failure.(api.Errno); ok {
				e = code
			}
		}
	}()
	p.pattern()
	if p.at < len(pattern) { // at a `)` that closes no group
		panic(api.ErrPattern)
	}
	return p.nodes, api.OK
}

// parser reads a pattern from left to right. Its methods read from the offset at on, append the nodes of what they read, and return the last one's index; they panic with the error code where the text is not a pattern.
type parser struct {
	text  string
	at    int
	depth int // the groups around the offset at
	nodes []api.Node
}

// add appends a node and returns its index.
func (p *parser) add(n api.Node) int {
	p.nodes = append(p.nodes, n)
	return len(p.nodes) - 1
}

// join returns the only kid, or else a new node with all kids.
func (p *parser) join(kind int, kids []int) int {
	if len(kids) == 1 {
		return kids[0]
	}
	return p.add(api.Node{Kind: kind, Kids: kids})
}

// take skips the byte b and returns true if it is the next one.
func (p *parser) take(b byte) bool {
	if p.at == len(p.text) || p.text[p.at] != b {
		return false
	}
	p.at++
	return true
}

// next reads any byte.
func (p *parser) next() byte {
	if p.at == len(p.text) {
		panic(api.ErrPattern)
	}
	p.at++
	return p.text[p.at-1]
}

// pattern reads alternatives up to the end of the text or to a `)`.
func (p *parser) pattern() int {
	kids := []int{p.alternative()}
	for p.take('|') {
		kids = append(kids, p.alternative())
	}
	return p.join(api.NodeAlt, kids)
}

// alternative reads pieces.
func (p *parser) alternative() int {
	var kids []int
	for p.at < len(p.text) && p.text[p.at] != '|' && p.text[p.at] != ')' {
		kids = append(kids, p.piece())
	}
	if len(kids) == 0 {
		return p.add(api.Node{Kind: api.NodeEmpty})
	}
	return p.join(api.NodeCat, kids)
}

// piece reads an atom and its quantifier.
func (p *parser) piece() int {
	first := p.text[p.at]
	read := p.step(first)
	atom := read()
	if first == '^' || first == '$' { // a quantifier that follows is read as the next atom, and refused
		return atom
	}
	return p.quantified(atom)
}

// step returns the method that reads the atom which begins with the byte b.
func (p *parser) step(b byte) func() int {
	switch b {
	case '(':
		return p.group
	case '[':
		return p.class
	case '.':
		return p.dot
	case '^':
		return p.start
	case '$':
		return p.end
	case '\\':
		return p.escape
	case '*', '+', '?', '{':
		return p.refuse
	}
	return p.plain
}

// group reads a pattern in parentheses.
func (p *parser) group() int {
	if p.depth == api.MaxDepth {
		panic(api.ErrLimit)
	}
	p.depth++
	p.at++
	node := p.pattern()
	if !p.take(')') {
		panic(api.ErrPattern)
	}
	p.depth--
	return node
}

// dot reads a `.`.
func (p *parser) dot() int {
	p.at++
	return p.addSet(span(0, 255))
}

// start reads a `^`.
func (p *parser) start() int {
	p.at++
	return p.add(api.Node{Kind: api.NodeStart})
}

// end reads a `$`.
func (p *parser) end() int {
	p.at++
	return p.add(api.Node{Kind: api.NodeEnd})
}

// escape reads a `\` and the byte after it.
func (p *parser) escape() int {
	p.at++
	return p.plain()
}

// plain reads a byte that stands for itself.
func (p *parser) plain() int {
	b := p.next()
	return p.addSet(span(b, b))
}

// refuse is the step for a byte with which no atom begins.
func (p *parser) refuse() int {
	panic(api.ErrPattern)
}

// quantified reads the quantifier of an atom, if there is one.
func (p *parser) quantified(atom int) int {
	least, most := 0, unbound
	switch {
	case p.take('*'):
	case p.take('+'):
		least = 1
	case p.take('?'):
		most = 1
	case p.take('{'):
		least, most = p.bounds()
	default:
		return atom
	}
	return p.add(api.Node{Kind: api.NodeRepeat, Min: least, Max: most, Kids: []int{atom}})
}

// bounds reads the numbers of a quantifier and its `}`.
func (p *parser) bounds() (int, int) {
	least := p.bound()
	most := least
	if p.take(',') {
		if p.take('}') {
			return least, unbound
		}
		most = p.bound()
	}
	if most < least || !p.take('}') {
		panic(api.ErrPattern)
	}
	return least, most
}

// bound reads a number of a quantifier.
func (p *parser) bound() int {
	n, end, ok := scan.Number(p.text, p.at)
	if !ok || n > api.MaxRepeat {
		panic(api.ErrPattern)
	}
	p.at = end
	return n
}
