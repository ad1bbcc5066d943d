package shortest

import (
	"slices"
	"testing"

	"mergelens/api"
	"mergelens/testkit"
)

// TestArgumentsStay checks that, as R4 says, all functions leave their arguments as they are, even behind their ends.
func TestArgumentsStay(t *testing.T) {
	a, b := numbers("abcabba"), numbers("cbabac")
	for m := range len(a) + 1 {
		for n := range len(b) + 1 {
			Distance(a[:m], b[:n])
			Script(a[:m], b[:n])
			Common(a[:m], b[:n])
			Script(a[:m], a[:n])
		}
	}
	if !slices.Equal(a, numbers("abcabba")) || !slices.Equal(b, numbers("cbabac")) {
		t.Errorf("R4: the texts are %v and %v", a, b)
	}
}

// TestNewLists checks R4: no script shares memory with a later result, not even beyond its length, or changes with the texts.
func TestNewLists(t *testing.T) {
	a, b := numbers("abcabba"), numbers("cbabac")
	want := changes([4]int{0, 2, 0, 0}, [4]int{3, 1, 1, 0}, [4]int{5, 0, 2, 1}, [4]int{7, 0, 5, 1})
	spoiled, _ := Script(a, b)
	testkit.Spoil(spoiled, api.Change{Old: 9})
	got, e := Script(a, b)
	if e != api.OK || !slices.Equal(got, want) {
		t.Errorf("R4: Script = %v, %d after a change of another result, want %v", got, e, want)
	}
	testkit.Spoil(a, 9)
	testkit.Spoil(b, 9)
	if !slices.Equal(got, want) {
		t.Errorf("R4: the script is %v after a change of the texts, want %v", got, want)
	}
	spoiled, _ = Blobs("a\nb\n", "b\nc\n")
	testkit.Spoil(spoiled, api.Change{Old: 9})
	want = changes([4]int{0, 1, 0, 0}, [4]int{2, 0, 1, 1})
	if got, e := Blobs("a\nb\n", "b\nc\n"); e != api.OK || !slices.Equal(got, want) {
		t.Errorf("R4: Blobs = %v, %d after a change of another result, want %v", got, e, want)
	}
}

// answers collects the results of calls of all functions.
func answers() []string {
	var list testkit.Answers
	texts := []string{"", "a", "ab", "ba\nc", "abcabba", "cba\n\nbac", "x\ny\nz\n", "z\ny\nx", "bab\nbab\nabba"}
	for _, a := range texts {
		for _, b := range texts {
			x, y := numbers(a), numbers(b)
			distance, e := Distance(x, y)
			common, f := Common(x, y)
			list.Add(distance, int(e), common, int(f))
			list.AddScript(Script(x, y))
			list.AddScript(Blobs(a, b))
			list.AddScript(Script(make([]int, api.MaxLines+1), y))
		}
	}
	return list
}

// TestSameResults checks R5: later calls and calls at the same time have the same results.
func TestSameResults(t *testing.T) {
	if !testkit.Same(answers) {
		t.Error("R5: other results of the same calls")
	}
}
