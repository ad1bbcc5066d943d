package automaton

import (
	"slices"

	"mergelens/api"
	"mergelens/regex"
)

// unbound is the Max of a repetition without a bound.
const unbound = -1

// Build returns an automaton for a regular expression.
func Build(l []api.Node) (api.Automaton, api.Errno) {
	weight, e := regex.Weight(l)
	if e != api.OK {
		return api.Automaton{}, e
	}
	if weight > api.MaxStates {
		return api.Automaton{}, api.ErrLimit
	}
	b := newBuilder(l)
	accept := b.add(api.State{Kind: api.StateAccept})
	start := b.node(len(l)-1, accept)
	return api.Automaton{States: b.states, Start: start}, api.OK
}

// builder appends states from the end of the text to its beginning. The methods for nodes append states that lead to the state next where a node ends, and return the state where it begins. A node that counts several times has states for each time.
type builder struct {
	nodes  []api.Node
	parts  [][]int // of each NodeCat, the kids that are not blank
	blank  []bool  // of each node, whether its weight is 0
	states []api.State
}

// newBuilder returns a builder without states.
func newBuilder(l []api.Node) *builder {
	b := &builder{nodes: l, parts: make([][]int, len(l)), blank: make([]bool, len(l))}
	for i, n := range l {
		switch n.Kind {
		case api.NodeCat:
			b.parts[i] = b.heavy(n.Kids)
			b.blank[i] = len(b.parts[i]) == 0
		case api.NodeRepeat:
			b.blank[i] = n.Min == n.Max && (n.Min == 0 || b.blank[n.Kids[0]])
		}
	}
	return b
}

// heavy returns the kids that are not blank.
func (b *builder) heavy(kids []int) []int {
	var list []int
	for _, k := range kids {
		if !b.blank[k] {
			list = append(list, k)
		}
	}
	return list
}

// add appends a state and returns its index.
func (b *builder) add(s api.State) int {
	b.states = append(b.states, s)
	return len(b.states) - 1
}

// split appends a state that leads to both first and other.
func (b *builder) split(first, other int) int {
	return b.add(api.State{Kind: api.StateSplit, Next: first, Other: other})
}

// node appends the states of the node i.
func (b *builder) node(i, next int) int {
	// A blank node matches the empty string alone. The weight bounds how often all other nodes count, but a blank one may count 2 to the power of the number of nodes times.
	if b.blank[i] {
		return next
	}
	n := &b.nodes[i]
	switch n.Kind {
	case api.NodeSet:
		return b.add(api.State{Kind: api.StateSet, Set: n.Set, Next: next})
	case api.NodeStart:
		return b.add(api.State{Kind: api.StateStart, Next: next})
	case api.NodeEnd:
		return b.add(api.State{Kind: api.StateEnd, Next: next})
	case api.NodeCat:
		return b.cat(b.parts[i], next)
	case api.NodeAlt:
		return b.alt(n.Kids, next)
	case api.NodeRepeat:
		return b.repeat(n, next)
	}
	return next // the empty string
}

// cat appends the states of kids one after another.
func (b *builder) cat(kids []int, next int) int {
	for _, k := range slices.Backward(kids) {
		next = b.node(k, next)
	}
	return next
}

// alt appends the states of kids of which one is chosen.
func (b *builder) alt(kids []int, next int) int {
	last := len(kids) - 1
	first := b.node(kids[last], next)
	for _, k := range slices.Backward(kids[:last]) {
		first = b.split(b.node(k, next), first)
	}
	return first
}

// repeat appends the states of a repetition, those of the last round first.
func (b *builder) repeat(n *api.Node, next int) int {
	kid := n.Kids[0]
	first := next
	if n.Max == unbound {
		first = b.loop(kid, next)
	} else {
		for range n.Max - n.Min {
			first = b.split(b.node(kid, first), next)
		}
	}
	for range n.Min {
		first = b.node(kid, first)
	}
	return first
}

// loop appends the states of any number of rounds of a kid.
func (b *builder) loop(kid, next int) int {
	again := b.split(next, next)
	first := b.node(kid, again)
	b.states[again].Next = first
	return again
}
