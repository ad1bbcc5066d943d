package testkit

import (
	"slices"
	"strconv"

	"mergelens/api"
)

// Changes returns the changes with the given fields: Old, OldLen, New and NewLen.
func Changes(fields ...[4]int) []api.Change {
	var l []api.Change
	for _, f := range fields {
		l = append(l, api.Change{Old: f[0], OldLen: f[1], New: f[2], NewLen: f[3]})
	}
	return l
}

// Scripts returns all valid scripts for m and n lines, which it builds change by change.
func Scripts(m, n int) [][]api.Change {
	var all [][]api.Change
	var extend func(l []api.Change, oldEnd, newEnd int)
	extend = func(l []api.Change, oldEnd, newEnd int) {
		if m-oldEnd == n-newEnd {
			all = append(all, slices.Clone(l))
		}
		for kept := min(len(l), 1); kept <= min(m-oldEnd, n-newEnd); kept++ {
			old, now := oldEnd+kept, newEnd+kept
			for oldTo := old; oldTo <= m; oldTo++ {
				for newTo := now; newTo <= n; newTo++ {
					if oldTo > old || newTo > now {
						extend(append(l, Changes([4]int{old, oldTo - old, now, newTo - now})...), oldTo, newTo)
					}
				}
			}
		}
	}
	extend(nil, 0, 0)
	return all
}

// EachScript calls f with all valid scripts for all numbers of lines up to most.
func EachScript(most int, f func(l []api.Change, m, n int)) {
	for m := range most + 1 {
		for n := range most + 1 {
			for _, l := range Scripts(m, n) {
				f(l, m, n)
			}
		}
	}
}

// Answers collects the results of calls for Same.
type Answers []string

// Add adds numbers.
func (list *Answers) Add(numbers ...int) {
	for _, n := range numbers {
		*list = append(*list, strconv.Itoa(n))
	}
}

// AddScript adds the changes and the error that a call returns.
func (list *Answers) AddScript(l []api.Change, e api.Errno) {
	list.Add(int(e), len(l))
	for _, c := range l {
		list.Add(c.Old, c.OldLen, c.New, c.NewLen)
	}
}
