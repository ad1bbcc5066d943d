package regex

import (
	"slices"
	"strings"

	"mergelens/api"
	"mergelens/scan"
)

// tree is a node of a pattern with its kids.
type tree struct {
	node api.Node // its Kids are unused
	kids []*tree
}

// grammar finds the trees of texts by trying all ways to split them, as the definitions of the chapter say it. It remembers what it found.
type grammar map[string]*tree

// once returns the tree that find gives for the text s as a part of the given name; nil if s is no such part.
func (g grammar) once(name, s string, find func(s string) *tree) *tree {
	key := name + s
	found, ok := g[key]
	if !ok {
		found = find(s)
		g[key] = found
	}
	return found
}

// pattern returns the tree of a pattern, nil if s is not one.
func (g grammar) pattern(s string) *tree {
	return g.once("pattern ", s, func(s string) *tree {
		if t := g.alternative(s); t != nil {
			return t
		}
		return g.joined(s, "|", g.alternative, api.NodeAlt)
	})
}

// alternative returns the tree of an alternative, nil if s is not one.
func (g grammar) alternative(s string) *tree {
	return g.once("alternative ", s, func(s string) *tree {
		if s == "" {
			return &tree{}
		}
		if t := g.piece(s); t != nil {
			return t
		}
		return g.joined(s, "", g.piece, api.NodeCat)
	})
}

// joined returns the tree of at least two parts of s with a separator between them, nil if there is none.
func (g grammar) joined(s, separator string, part func(s string) *tree, kind int) *tree {
	kids := g.parts(s, separator, part)
	if len(kids) < 2 {
		return nil
	}
	return &tree{node: api.Node{Kind: kind}, kids: kids}
}

// parts returns the trees of the parts of s, nil if there is no way to split it.
func (g grammar) parts(s, separator string, part func(s string) *tree) []*tree {
	if t := part(s); t != nil {
		return []*tree{t}
	}
	for i := range len(s) {
		if separator == "" && i == 0 || !strings.HasPrefix(s[i:], separator) {
			continue
		}
		if t := part(s[:i]); t != nil {
			if more := g.parts(s[i+len(separator):], separator, part); more != nil {
				return append([]*tree{t}, more...)
			}
		}
	}
	return nil
}

// piece returns the tree of a piece, nil if s is not one.
func (g grammar) piece(s string) *tree {
	return g.once("piece ", s, func(s string) *tree {
		if t := g.atom(s); t != nil {
			return t
		}
		for i := 1; i < len(s); i++ {
			least, most, ok := quantifier(s[i:])
			if t := g.atom(s[:i]); ok && t != nil && s[:i] != "^" && s[:i] != "$" {
				return &tree{node: api.Node{Kind: api.NodeRepeat, Min: least, Max: most}, kids: []*tree{t}}
			}
		}
		return nil
	})
}

// quantifier returns the bounds of a quantifier, and false if s is not one.
func quantifier(s string) (int, int, bool) {
	switch s {
	case "*":
		return 0, -1, true
	case "+":
		return 1, -1, true
	case "?":
		return 0, 1, true
	}
	if len(s) < 3 || s[0] != '{' || s[len(s)-1] != '}' {
		return 0, 0, false
	}
	first, second, two := strings.Cut(s[1:len(s)-1], ",")
	least, ok := whole(first)
	most := least
	if two && second == "" {
		return least, -1, ok && least <= api.MaxRepeat
	}
	if two {
		var fine bool
		most, fine = whole(second)
		ok = ok && fine
	}
	return least, most, ok && least <= most && most <= api.MaxRepeat
}

// whole returns the number that is the whole of s.
func whole(s string) (int, bool) {
	n, end, ok := scan.Number(s, 0)
	return n, ok && end == len(s)
}

// atom returns the tree of an atom, nil if s is not one.
func (g grammar) atom(s string) *tree {
	switch {
	case s == "":
		return nil
	case s == ".":
		return &tree{node: setOf(func(b byte) bool { return true })}
	case s == "^":
		return &tree{node: api.Node{Kind: api.NodeStart}}
	case s == "$":
		return &tree{node: api.Node{Kind: api.NodeEnd}}
	case len(s) == 2 && s[0] == '\\':
		return &tree{node: setOf(func(b byte) bool { return b == s[1] })}
	case len(s) >= 2 && s[0] == '(' && s[len(s)-1] == ')':
		return g.pattern(s[1 : len(s)-1])
	case len(s) >= 3 && s[0] == '[' && s[len(s)-1] == ']':
		return bracket(s)
	case len(s) == 1 && !strings.Contains("([|)*+?{\\", s):
		return &tree{node: setOf(func(b byte) bool { return b == s[0] })}
	}
	return nil
}

// setOf returns the node of a set.
func setOf(has func(b byte) bool) api.Node {
	n := api.Node{Kind: api.NodeSet}
	for b := range 256 {
		if has(byte(b)) {
			n.Set[b/64] |= 1 << (b % 64)
		}
	}
	return n
}

// bracket returns the tree of a class, nil if s is not one.
func bracket(s string) *tree {
	inner, negative := strings.CutPrefix(s[1:len(s)-1], "^")
	var members []byte
	for i := 0; i < len(inner); {
		name, _, _ := strings.Cut(inner[i:], ":]")
		switch {
		case i > 0 && inner[i] == ']':
			return nil // the class ends here
		case strings.HasPrefix(inner[i:], "[:"):
			more := members
			for b := range 256 {
				if nameHas(strings.TrimPrefix(name, "[:"), byte(b)) {
					more = append(more, byte(b))
				}
			}
			if len(more) == len(members) || len(name)+2 > len(inner)-i {
				return nil
			}
			members = more
			i += len(name) + 2
		case i+2 < len(inner) && inner[i+1] == '-' && inner[i+2] != ']':
			if inner[i+2] < inner[i] {
				return nil
			}
			for b := int(inner[i]); b <= int(inner[i+2]); b++ {
				members = append(members, byte(b))
			}
			i += 3
		default:
			members = append(members, inner[i])
			i++
		}
	}
	if inner == "" {
		return nil
	}
	return &tree{node: setOf(func(b byte) bool { return slices.Contains(members, b) != negative })}
}

// nameHas reports whether a name of a class stands for the byte b.
func nameHas(name string, b byte) bool {
	const upper, lower, digits = "ABCDEFGHIJKLMNOPQRSTUVWXYZ", "abcdefghijklmnopqrstuvwxyz", "0123456789"
	members := ""
	switch name {
	case "alpha":
		members = upper + lower
	case "digit":
		members = digits
	case "alnum":
		members = upper + lower + digits
	case "upper":
		members = upper
	case "lower":
		members = lower
	case "space":
		members = "\t\n\v\f\r "
	case "punct":
		members = "!\"#$%&'()*+,-./:;<=>?@[\\]^_`{|}~"
	}
	return strings.IndexByte(members, b) >= 0
}

// nodes appends the nodes of a tree, each one after its kids.
func (t *tree) nodes(list []api.Node) []api.Node {
	n := t.node
	for _, kid := range t.kids {
		list = kid.nodes(list)
		n.Kids = append(n.Kids, len(list)-1)
	}
	return append(list, n)
}
