// Package testkit holds what the tests of several layers share. The program itself does not use it.
package testkit

import (
	"slices"
	"sync"

	"mergelens/api"
)

// Texts calls f with every string of at most length bytes of the alphabet.
func Texts(alphabet string, length int, f func(s string)) {
	var extend func(s string)
	extend = func(s string) {
		f(s)
		if len(s) == length {
			return
		}
		for i := range len(alphabet) {
			extend(s + alphabet[i:i+1])
		}
	}
	extend("")
}

// Same reports whether calls of answers at the same time all return what a call before them returns.
func Same(answers func() []string) bool {
	want := answers()
	got := make([][]string, 16)
	var group sync.WaitGroup
	for i := range got {
		group.Add(1)
		go func() {
			defer group.Done()
			got[i] = answers()
		}()
	}
	group.Wait()
	for _, list := range got {
		if !slices.Equal(list, want) {
			return false
		}
	}
	return true
}

// Spoil overwrites a list up to its capacity, so that whatever shares memory with it shows.
func Spoil[T any](list []T, v T) {
	full := list[:cap(list)]
	for i := range full {
		full[i] = v
	}
}

// Spans returns the spans with the given From and To.
func Spans(pairs ...[2]int) []api.Span {
	var list []api.Span
	for _, p := range pairs {
		list = append(list, api.Span{From: p[0], To: p[1]})
	}
	return list
}

// Numbers returns a text with one line for each byte of a string.
func Numbers(s string) []int {
	text := make([]int, len(s))
	for i := range text {
		text[i] = int(s[i])
	}
	return text
}

// Head returns the first elements of a list, for messages.
func Head[T any](list []T) []T {
	return list[:min(len(list), 20)]
}
