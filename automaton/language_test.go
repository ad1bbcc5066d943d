package automaton

import (
	"mergelens/api"
	"mergelens/testkit"
)

// longest is the length of the longest text that has relations.
const longest = 7

// relation is a set of pairs of offsets: bit j of element i says whether it has (i, j).
type relation [longest + 1]uint8

// with returns a relation that has the pair (i, j), too.
func (r relation) with(i, j int) relation {
	r[i] |= 1 << j
	return r
}

// or returns the union of two relations.
func (r relation) or(other relation) relation {
	for i := range r {
		r[i] |= other[i]
	}
	return r
}

// then returns the pairs that are composed of a pair of r and one of other.
func (r relation) then(other relation) relation {
	var both relation
	for i := range r {
		for j := range other {
			if r[i]>>j&1 == 1 {
				both[i] |= other[j]
			}
		}
	}
	return both
}

// empties returns the pairs (i, i) of the offsets of s.
func empties(s string) relation {
	var r relation
	for i := range len(s) + 1 {
		r = r.with(i, i)
	}
	return r
}

// language returns the language of the root for the text s, as the chapter defines it.
func language(l []api.Node, s string) relation {
	languages := make([]relation, len(l))
	for i, n := range l {
		languages[i] = languageOf(n, languages, s)
	}
	return languages[len(l)-1]
}

// languageOf returns the language of a node whose kids have the given languages.
func languageOf(n api.Node, languages []relation, s string) relation {
	var r relation
	switch n.Kind {
	case api.NodeEmpty:
		r = empties(s)
	case api.NodeSet:
		for i := range len(s) {
			if testkit.Contains(n.Set, s[i]) {
				r = r.with(i, i+1)
			}
		}
	case api.NodeStart:
		r = r.with(0, 0)
	case api.NodeEnd:
		r = r.with(len(s), len(s))
	case api.NodeCat:
		r = empties(s)
		for _, k := range n.Kids {
			r = r.then(languages[k])
		}
	case api.NodeAlt:
		for _, k := range n.Kids {
			r = r.or(languages[k])
		}
	case api.NodeRepeat:
		return rounds(n.Min, n.Max, languages[n.Kids[0]], s)
	}
	return r
}

// rounds returns the pairs that are composed of least to most pairs of a language.
func rounds(least, most int, kid relation, s string) relation {
	if most == -1 {
		most = least + len(s) // of more rounds than these one is empty, and a part of the least ones is not needed
	}
	var all relation
	round := empties(s)
	for r := range most + 1 {
		if r >= least {
			all = all.or(round)
		}
		round = round.then(kid)
	}
	return all
}

// accepted returns the pairs that the automaton accepts in s.
func accepted(a api.Automaton, s string) relation {
	var r relation
	for i := range len(s) + 1 {
		for _, j := range testkit.Ends(a, s, i) {
			r = r.with(i, j)
		}
	}
	return r
}
