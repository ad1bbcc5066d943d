package intern

import (
	"slices"
	"strconv"
	"strings"
	"testing"

	"mergelens/api"
	"mergelens/testkit"
)

// hostile lists files that are empty, odd or large, beside ordinary ones.
func hostile() [][][]string {
	odd := []string{"", "\x00", "\n", "\n\n", "\xff\xfe", "\xc3", "\xa9", "a\x00b"}
	long := strings.Repeat("x", api.MaxText)
	return [][][]string{
		nil, {}, {nil}, {{}}, {{""}}, {{"a", "b", "a"}, {"c", "b"}}, {nil, {"a"}, nil}, {odd}, {odd, odd}, {{long, "", long + "y"}, {"x", long}},
		make([][]string, 1<<20), {make([]string, 1<<20)}, slices.Repeat([][]string{odd}, 10000),
	}
}

// hostileIds lists numbers for hostile names: none, small ones, wrong ones and many.
func hostileIds() [][]int {
	list := [][]int{nil, {}, {0}, {0, 1, 0}, make([]int, 1<<20), wrongIds()}
	for _, id := range wrongIds() {
		list = append(list, []int{id}, []int{0, id, 0})
	}
	return list
}

// TestNoPanic checks R1, R2 and R3: every call returns, and Spell has no strings with an error.
func TestNoPanic(t *testing.T) {
	for i, files := range hostile() {
		if ids := Ids(files); len(ids) != len(files) {
			t.Errorf("R1: case %d: %d lists of numbers for %d files", i, len(ids), len(files))
		}
		names := Names(files)
		for _, ids := range hostileIds() {
			got, e := Spell(names, ids)
			if e == api.OK && len(got) != len(ids) || e != api.OK && len(got) != 0 {
				t.Errorf("R2: case %d: %d strings of %d numbers, error %d", i, len(got), len(ids), e)
			}
		}
	}
}

// TestArgumentsStay checks that, as R4 says, all functions leave their arguments as they are, even behind their ends.
func TestArgumentsStay(t *testing.T) {
	row := []string{"a", "b", "a", "beyond"}
	files := [][]string{row[:3], {"c", "b"}, {"beyond"}}
	Ids(files[:2])
	Names(files[:2])
	names := []string{"a", "b", "beyond"}
	ids := []int{1, 0, 7}
	for n := range 4 {
		Spell(names[:2], ids[:n]) // the last one is an error
	}
	if !slices.Equal(row, []string{"a", "b", "a", "beyond"}) || !slices.Equal(files[1], []string{"c", "b"}) || !slices.Equal(files[2], []string{"beyond"}) || len(files[0]) != 3 {
		t.Errorf("R4: the files are %q", files)
	}
	if !slices.Equal(names, []string{"a", "b", "beyond"}) || !slices.Equal(ids, []int{1, 0, 7}) {
		t.Errorf("R4: the names are %q, the numbers %v", names, ids)
	}
}

// TestNewLists checks R4: no list of a result shares memory with another one, with an argument or with a later result, not even beyond its length.
func TestNewLists(t *testing.T) {
	files := [][]string{{"a", "b", "a"}, {"a", "b", "a"}, {"c"}}
	want := [][]int{{0, 1, 0}, {0, 1, 0}, {2}}
	for i := range files {
		ids := Ids(files)
		testkit.Spoil(ids[i], 9)
		for j := range files {
			if j != i && !slices.Equal(ids[j], want[j]) {
				t.Errorf("R4: the numbers of file %d are %v after a change of those of file %d", j, ids[j], i)
			}
		}
		testkit.Spoil(ids, []int{8})
		if got := Ids(files); !sameIds(got, want) {
			t.Errorf("R4: Ids = %v after a change of another result", got)
		}
	}
	names := []string{"a", "b", "c"}
	testkit.Spoil(Names([][]string{names}), "changed")
	if got := Names([][]string{names}); !slices.Equal(got, names) || names[0] != "a" {
		t.Errorf("R4: Names(%q) = %q after a change of another result", names, got)
	}
	got, _ := Spell(names, []int{0, 1, 2})
	testkit.Spoil(got, "changed")
	if again, _ := Spell(names, []int{0, 1, 2}); !slices.Equal(again, []string{"a", "b", "c"}) {
		t.Errorf("R4: Spell(%q) = %q after a change of another result", names, again)
	}
}

// TestNotKept checks R4 and R5: a change of an argument after a call changes no result, and no call remembers the strings of an earlier one.
func TestNotKept(t *testing.T) {
	files := [][]string{{"a", "b"}}
	names := Names(files)
	ids := Ids(files)
	strs, _ := Spell(names, ids[0])
	files[0][0] = "z"
	if names[0] != "a" || strs[0] != "a" {
		t.Errorf("R4: Names has %q, Spell %q", names[0], strs[0])
	}
	names[0] = "y"
	ids[0][1] = 0
	if !slices.Equal(strs, []string{"a", "b"}) {
		t.Errorf("R4: Spell = %q", strs)
	}
	if got := Ids([][]string{{"b", "z"}}); !sameIds(got, [][]int{{0, 1}}) {
		t.Errorf("R5: Ids = %v after other calls", got)
	}
	if got := Names([][]string{{"q"}}); !slices.Equal(got, []string{"q"}) {
		t.Errorf("R5: Names = %q after other calls", got)
	}
}

// answers collects the results of calls of all functions.
func answers() []string {
	var list []string
	for _, files := range hostile()[:10] {
		names := Names(files)
		list = append(list, names...)
		for _, ids := range Ids(files) {
			strs, e := Spell(names, ids)
			list = append(list, strs...)
			list = append(list, "error", strconv.Itoa(int(e)))
			for _, id := range ids {
				list = append(list, strconv.Itoa(id))
			}
		}
		_, e := Spell(names, []int{len(names)})
		list = append(list, strconv.Itoa(int(e)))
	}
	return list
}

// TestSameResults checks R5: later calls and calls at the same time have the same results.
func TestSameResults(t *testing.T) {
	if !testkit.Same(answers) {
		t.Error("R5: other results of the same calls")
	}
}
