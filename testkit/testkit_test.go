package testkit

import (
	"slices"
	"strconv"
	"sync/atomic"
	"testing"

	"mergelens/api"
)

func TestTexts(t *testing.T) {
	var got []string
	Texts("ab", 2, func(s string) { got = append(got, s) })
	slices.Sort(got)
	if !slices.Equal(got, []string{"", "a", "aa", "ab", "b", "ba", "bb"}) {
		t.Errorf("Texts = %q", got)
	}
}

func TestSame(t *testing.T) {
	if !Same(func() []string { return []string{"a", "b"} }) {
		t.Error("Same is false of equal answers")
	}
	var calls atomic.Int64
	if Same(func() []string { return []string{strconv.FormatInt(calls.Add(1), 10)} }) {
		t.Error("Same is true of other answers")
	}
}

func TestSpoil(t *testing.T) {
	list := []string{"a", "b", "c"}
	Spoil(list[:1:2], "z")
	if !slices.Equal(list, []string{"z", "z", "c"}) {
		t.Errorf("Spoil leaves %q", list)
	}
}

func TestSpans(t *testing.T) {
	if got := Spans([2]int{1, 2}, [2]int{-3, 0}); !slices.Equal(got, []api.Span{{From: 1, To: 2}, {From: -3, To: 0}}) {
		t.Errorf("Spans = %v", got)
	}
	if got := Spans(); len(got) > 0 {
		t.Errorf("Spans of nothing = %v", got)
	}
}

func TestNumbers(t *testing.T) {
	if got := Numbers("a\nb\xff"); !slices.Equal(got, []int{97, 10, 98, 255}) {
		t.Errorf("Numbers = %v", got)
	}
	if got := Numbers(""); len(got) > 0 {
		t.Errorf("Numbers of nothing = %v", got)
	}
}

func TestHead(t *testing.T) {
	list := make([]int, 30)
	for i := range list {
		list[i] = i
	}
	if got := Head(list); len(got) != 20 || got[0] != 0 || got[19] != 19 {
		t.Errorf("Head = %v", got)
	}
	if got := Head(list[:3]); !slices.Equal(got, list[:3]) {
		t.Errorf("Head of a short list = %v", got)
	}
}
