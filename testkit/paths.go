package testkit

import "mergelens/api"

// Contains reports whether a set has the byte b.
func Contains(set [4]uint64, b byte) bool {
	return set[b/64]>>(b%64)&1 == 1
}

// Ends returns the offsets j, ascending, for which a valid automaton accepts (i, j) in s, by following all paths.
func Ends(a api.Automaton, s string, i int) []int {
	type place struct{ state, at int }
	seen := make([]bool, len(a.States)*(len(s)+1))
	accepts := make([]bool, len(s)+1)
	var todo []place
	visit := func(state, at int) {
		if k := state*(len(s)+1) + at; !seen[k] {
			seen[k] = true
			todo = append(todo, place{state, at})
		}
	}
	visit(a.Start, i)
	for len(todo) > 0 {
		p := todo[len(todo)-1]
		todo = todo[:len(todo)-1]
		state := &a.States[p.state]
		switch {
		case state.Kind == api.StateAccept:
			accepts[p.at] = true
		case state.Kind == api.StateSplit:
			visit(state.Next, p.at)
			visit(state.Other, p.at)
		case state.Kind == api.StateStart && p.at == 0, state.Kind == api.StateEnd && p.at == len(s):
			visit(state.Next, p.at)
		case state.Kind == api.StateSet && p.at < len(s) && Contains(state.Set, s[p.at]):
			visit(state.Next, p.at+1)
		}
	}
	var list []int
	for j, yes := range accepts {
		if yes {
			list = append(list, j)
		}
	}
	return list
}
