package testkit

import (
	"slices"
	"strconv"
	"sync/atomic"
	"testing"
)

func TestTexts(t *testing.T) {
	var got []string
	Texts("ab", 2, func(s string) { got = append(got, s) })
	slices.Sort(got)
	if !slices.Equal(got, []string{"", "a", "aa", "ab", "b", "ba", "bb"}) {
		t.Errorf("Texts = %q", got)
	}
}

func TestSame(t *testing.T) {
	if !Same(func() []string { return []string{"a", "b"} }) {
		t.Error("Same is false of equal answers")
	}
	var calls atomic.Int64
	if Same(func() []string { return []string{strconv.FormatInt(calls.Add(1), 10)} }) {
		t.Error("Same is true of other answers")
	}
}

func TestSpoil(t *testing.T) {
	list := []string{"a", "b", "c"}
	Spoil(list[:1:2], "z")
	if !slices.Equal(list, []string{"z", "z", "c"}) {
		t.Errorf("Spoil leaves %q", list)
	}
}
