package search

import (
	"iter"
	"slices"

	"mergelens/api"
)

// longest goes from the end of s down to from, and yields for each offset at which matches begin the longest one of them.
//
// It follows the paths of the automaton backward. For at each offset, the farthest end that is reached from a state tells what is needed of the text behind it, so that a single pass finds all matches, however long they are and however much they overlap.
func longest(a api.Automaton, s string, from int) iter.Seq[api.Span] {
	return func(yield func(api.Span) bool) {
		w := newWalker(a, s)
		for w.at > from {
			if w.back(); w.end >= 0 && !yield(api.Span{From: w.at, To: w.end}) {
				return
			}
		}
	}
}

// walker walks through a text from its end to its beginning.
type walker struct {
	a       api.Automaton
	s       string
	reading steps
	free    steps // those that read nothing
	accepts []int
	at      int     // the offset
	live    []place // the states from which an accept is reached from here, those that reach farthest first
	former  []place // those of the offset behind
	seen    []int   // for each state, the last offset at which it was live
	end     int     // how far the start reaches from here, or -1
}

// place is a state from which an accept is reached at the offset end, and at no farther one.
type place struct {
	state int
	end   int
}

// steps lists the steps of an automaton by the states to which they lead. The steps of the state s are 2 s, to Next, and 2 s + 1, to Other.
type steps struct {
	last   []int // for each state, the last of the steps to it, or -1
	before []int // for each step, the one to the same state that was listed before it, or -1
}

// newSteps returns empty lists for n states.
func newSteps(n int) steps {
	return steps{last: slices.Repeat([]int{-1}, n), before: make([]int, 2*n)}
}

// add lists a step to the given state.
func (l steps) add(step, to int) {
	l.before[step] = l.last[to]
	l.last[to] = step
}

// newWalker returns a walker behind the end of s: its first step leads to the end.
func newWalker(a api.Automaton, s string) *walker {
	n := len(a.States)
	w := &walker{a: a, s: s, reading: newSteps(n), free: newSteps(n), at: len(s) + 1, seen: slices.Repeat([]int{-1}, n)}
	for i := range a.States {
		switch state := &a.States[i]; state.Kind {
		case api.StateSet:
			w.reading.add(2*i, state.Next)
		case api.StateStart, api.StateEnd:
			w.free.add(2*i, state.Next)
		case api.StateSplit:
			w.free.add(2*i, state.Next)
			w.free.add(2*i+1, state.Other)
		case api.StateAccept:
			w.accepts = append(w.accepts, i)
		}
	}
	return w
}

// back goes to the offset before.
func (w *walker) back() {
	w.at--
	w.end = -1
	w.live, w.former = w.former[:0], w.live
	for _, behind := range w.former {
		for step := w.reading.last[behind.state]; step >= 0; step = w.reading.before[step] {
			if reads(&w.a.States[step/2], w.s[w.at]) {
				w.reach(step/2, behind.end)
			}
		}
	}
	for _, state := range w.accepts {
		w.reach(state, w.at)
	}
}

// reads reports whether the set of a state has the byte b.
func reads(state *api.State, b byte) bool {
	return state.Set[b/64]>>(b%64)&1 == 1
}

// reach makes a state live, and at once those that lead to it without reading, so that the farthest end of each comes first.
func (w *walker) reach(state, end int) {
	done := len(w.live)
	w.visit(state, end)
	for ; done < len(w.live); done++ {
		next := w.live[done].state
		for step := w.free.last[next]; step >= 0; step = w.free.before[step] {
			if w.passes(step / 2) {
				w.visit(step/2, end)
			}
		}
	}
}

// visit makes a state live if it is not yet.
func (w *walker) visit(state, end int) {
	if w.seen[state] == w.at {
		return
	}
	w.seen[state] = w.at
	w.live = append(w.live, place{state, end})
	if state == w.a.Start {
		w.end = end
	}
}

// passes reports whether a state that reads nothing is passed at this offset.
func (w *walker) passes(state int) bool {
	switch w.a.States[state].Kind {
	case api.StateStart:
		return w.at == 0
	case api.StateEnd:
		return w.at == len(w.s)
	}
	return true
}
