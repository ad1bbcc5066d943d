package testkit

import (
	"math/big"
	"slices"
	"testing"

	"mergelens/api"
)

func TestChanges(t *testing.T) {
	if got := Changes([4]int{1, 2, 3, 4}, [4]int{-5, 0, 6, 7}); !slices.Equal(got, []api.Change{{Old: 1, OldLen: 2, New: 3, NewLen: 4}, {Old: -5, New: 6, NewLen: 7}}) {
		t.Errorf("Changes = %v", got)
	}
	if got := Changes(); len(got) > 0 {
		t.Errorf("Changes of nothing = %v", got)
	}
}

// TestScripts checks that the lists of all scripts are complete: each script is determined by the matched lines of both texts.
func TestScripts(t *testing.T) {
	for m := range 7 {
		for n := range 7 {
			all := Scripts(m, n)
			if want := new(big.Int).Binomial(int64(m+n), int64(n)); want.Cmp(big.NewInt(int64(len(all)))) != 0 {
				t.Errorf("there are %v scripts for %d and %d lines, not %d", want, m, n, len(all))
			}
			for i, l := range all {
				if slices.ContainsFunc(all[:i], func(other []api.Change) bool { return slices.Equal(other, l) }) {
					t.Errorf("the script %v occurs twice for %d and %d lines", l, m, n)
				}
			}
		}
	}
}

func TestEachScript(t *testing.T) {
	got := map[[2]int][][]api.Change{}
	EachScript(2, func(l []api.Change, m, n int) {
		lines := [2]int{m, n}
		got[lines] = append(got[lines], l)
	})
	for m := range 3 {
		for n := range 3 {
			if all := got[[2]int{m, n}]; !slices.EqualFunc(all, Scripts(m, n), slices.Equal) {
				t.Errorf("EachScript goes through %v for %d and %d lines", all, m, n)
			}
		}
	}
	if len(got) != 9 {
		t.Errorf("EachScript goes through scripts for %d pairs of numbers", len(got))
	}
}

func TestAnswers(t *testing.T) {
	var list Answers
	list.Add(3, -1)
	list.Add()
	list.AddScript(Changes([4]int{1, 2, 3, 4}), api.ErrArg)
	list.AddScript(nil, api.OK)
	if !slices.Equal(list, []string{"3", "-1", "2", "1", "1", "2", "3", "4", "0", "0"}) {
		t.Errorf("the answers are %q", list)
	}
}
