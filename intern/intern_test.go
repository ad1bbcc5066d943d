package intern

import (
	"math"
	"slices"
	"strconv"
	"strings"
	"testing"

	"mergelens/api"
	"mergelens/testkit"
)

// firsts is the definition of Names, taken from the chapter: the strings that occur at no earlier place.
func firsts(files [][]string) []string {
	visited := slices.Concat(files...)
	var names []string
	for i, s := range visited {
		if slices.Index(visited, s) == i {
			names = append(names, s)
		}
	}
	return names
}

// numbers is the definition of Ids, taken from the chapter: before the first occurrence of a string, only strings of smaller numbers were visited.
func numbers(files [][]string) [][]int {
	visited := slices.Concat(files...)
	ids := make([][]int, len(files))
	for i, file := range files {
		for _, s := range file {
			before := visited[:slices.Index(visited, s)]
			ids[i] = append(ids[i], len(firsts([][]string{before})))
		}
	}
	return ids
}

// sameIds says whether two lists of lists of numbers are equal.
func sameIds(a, b [][]int) bool {
	return slices.EqualFunc(a, b, slices.Equal[[]int])
}

// fresh returns equal strings in memory of their own.
func fresh(files [][]string) [][]string {
	copies := make([][]string, len(files))
	for i, file := range files {
		for _, s := range file {
			copies[i] = append(copies[i], string([]byte(s)))
		}
	}
	return copies
}

// checkFiles checks P3.1 and P3.3 of files, whose numbers and names are given.
func checkFiles(t *testing.T, files [][]string, ids [][]int, names []string) {
	t.Helper()
	gotIds, gotNames := Ids(files), Names(files)
	if !sameIds(gotIds, ids) {
		t.Fatalf("P3.1: Ids(%.99q) = %v, want %v", files, gotIds, ids)
	}
	if !slices.Equal(gotNames, names) {
		t.Fatalf("P3.1: Names(%.99q) = %.99q, want %.99q", files, gotNames, names)
	}
	for i, file := range files {
		if got, e := Spell(gotNames, gotIds[i]); e != api.OK || !slices.Equal(got, file) {
			t.Fatalf("P3.3: Spell(%.99q, %v) = %.99q, %d, want %.99q", gotNames, gotIds[i], got, e, file)
		}
	}
}

func TestIdsAndNames(t *testing.T) {
	long := strings.Repeat("x", api.MaxBlob)
	for _, c := range []struct {
		files [][]string
		ids   [][]int
		names []string
	}{
		{nil, nil, nil}, {[][]string{}, nil, nil}, {[][]string{nil}, [][]int{nil}, nil}, {[][]string{nil, {}, nil}, [][]int{nil, nil, nil}, nil},
		{[][]string{{""}}, [][]int{{0}}, []string{""}}, {[][]string{{"", ""}, {""}}, [][]int{{0, 0}, {0}}, []string{""}},
		{[][]string{{"a", "b", "a"}, {"c", "b"}}, [][]int{{0, 1, 0}, {2, 1}}, []string{"a", "b", "c"}},
		{[][]string{{"c", "b"}, {"a", "b", "a"}}, [][]int{{0, 1}, {2, 1, 2}}, []string{"c", "b", "a"}}, // in order of visits, not of bytes
		{[][]string{{"b"}, nil, {"a", ""}, {}, {"", "b"}}, [][]int{{0}, nil, {1, 2}, nil, {2, 0}}, []string{"b", "a", ""}},
		{[][]string{{"a", "a", "b"}, {"a", "c"}}, [][]int{{0, 0, 1}, {0, 2}}, []string{"a", "b", "c"}}, // different strings are counted, not visits
		{[][]string{{"a", "a\n", "a\r\n", "A", " a", "a ", "aa", "a"}}, [][]int{{0, 1, 2, 3, 4, 5, 6, 0}}, []string{"a", "a\n", "a\r\n", "A", " a", "a ", "aa"}},
		{[][]string{{"\n", "", "\n\n"}, {"a\nb", "a", "b"}}, [][]int{{0, 1, 2}, {3, 4, 5}}, []string{"\n", "", "\n\n", "a\nb", "a", "b"}}, // any strings, not lines alone
		{[][]string{{"\xff", "\xfe", "\ufffd", "\xff"}, {"\xc3\xa9", "e\u0301", "\xc3"}}, [][]int{{0, 1, 2, 0}, {3, 4, 5}}, []string{"\xff", "\xfe", "\ufffd", "\u00e9", "e\u0301", "\xc3"}},
		{[][]string{{"", "\x00", "\x00\x00"}, {"a\x00", "a", "a\x00b"}}, [][]int{{0, 1, 2}, {3, 4, 5}}, []string{"", "\x00", "\x00\x00", "a\x00", "a", "a\x00b"}},
		{[][]string{{long, long + "y", long + "z", "y" + long}, {long + "z", long}}, [][]int{{0, 1, 2, 3}, {2, 0}}, []string{long, long + "y", long + "z", "y" + long}},
	} {
		checkFiles(t, c.files, c.ids, c.names)
		checkFiles(t, fresh(c.files), c.ids, c.names)
	}
}

// TestAllFiles compares Ids and Names with the definitions, and checks both parts of P3.3.
func TestAllFiles(t *testing.T) {
	strs := map[rune]string{'a': "", 'b': "a", 'c': "a\n", 'd': "\xff"}
	testkit.Texts("abcd|", 6, func(text string) {
		files := [][]string{nil}
		for _, b := range text {
			last := len(files) - 1
			if b == '|' {
				files = append(files, nil)
			} else {
				files[last] = append(files[last], strs[b])
			}
		}
		checkFiles(t, files, numbers(files), firsts(files))
		checkEqual(t, slices.Concat(files...), slices.Concat(Ids(files)...))
	})
}

// checkEqual checks the first part of P3.3: numbers are equal exactly where the strings are.
func checkEqual(t *testing.T, strs []string, ids []int) {
	t.Helper()
	for i, s := range strs {
		for j, r := range strs {
			if (s == r) != (ids[i] == ids[j]) {
				t.Fatalf("P3.3: %q has the number %d, %q the number %d", s, ids[i], r, ids[j])
			}
		}
	}
}

// TestManyStrings checks that no limit of package api applies to the number of strings or of files.
func TestManyStrings(t *testing.T) {
	const count = 1 << 17
	var wide []string
	var high, back [][]string
	var wideIds []int
	var highIds, backIds [][]int
	for i := range count {
		s := strconv.Itoa(i)
		wide, wideIds = append(wide, s), append(wideIds, i)
		high, highIds = append(high, []string{s}), append(highIds, []int{i})
		back, backIds = append(back, []string{strconv.Itoa(count - 1 - i)}), append(backIds, []int{count - 1 - i})
	}
	checkFiles(t, [][]string{wide}, [][]int{wideIds}, wide)
	checkFiles(t, [][]string{wide, wide}, [][]int{wideIds, wideIds}, wide)
	checkFiles(t, high, highIds, wide)
	checkFiles(t, slices.Concat(high, back), slices.Concat(highIds, backIds), wide)
}

func TestSpell(t *testing.T) {
	for _, c := range []struct {
		names []string
		ids   []int
		want  []string
	}{
		{nil, nil, nil}, {[]string{}, []int{}, nil}, {[]string{"a"}, nil, nil}, {[]string{"a"}, []int{0}, []string{"a"}}, {[]string{""}, []int{0, 0}, []string{"", ""}},
		{[]string{"a", "b", "c"}, []int{0, 1, 2}, []string{"a", "b", "c"}}, {[]string{"a", "b", "c"}, []int{2, 1, 0}, []string{"c", "b", "a"}},
		{[]string{"a", "b", "c"}, []int{1, 1, 2, 1}, []string{"b", "b", "c", "b"}}, {[]string{"a", "b"}, []int{1}, []string{"b"}},
		{[]string{"a", "a", "b", "a"}, []int{3, 0, 1, 2}, []string{"a", "a", "a", "b"}}, // names need not be different
		{[]string{"\n", "a\nb", "\xff", "\x00"}, []int{3, 2, 1, 0}, []string{"\x00", "\xff", "a\nb", "\n"}},
	} {
		if got, e := Spell(c.names, c.ids); e != api.OK || !slices.Equal(got, c.want) {
			t.Errorf("P3.2: Spell(%q, %v) = %q, %d, want %q", c.names, c.ids, got, e, c.want)
		}
	}
}

// wrongIds lists numbers that are no index of three names: those next to the indexes, the largest ones, and those whose low bits are an index.
func wrongIds() []int {
	list := []int{-1, -2, -3, -4, 3, 4, math.MinInt, math.MinInt + 1, math.MaxInt, math.MaxInt - 1, math.MinInt32, math.MaxInt32}
	for shift := 2; shift < strconv.IntSize; shift++ {
		list = append(list, 1<<shift, 1<<shift+1, -1<<shift, -1<<shift+2)
	}
	return list
}

func TestSpellErrors(t *testing.T) {
	names := []string{"a", "b", "c"}
	for _, id := range wrongIds() {
		for _, ids := range [][]int{{id}, {id, 0}, {0, id}, {2, id, 1}, {0, 1, 2, id}, {id, id}, {id, -1}} {
			if got, e := Spell(names, ids); e != api.ErrRange || len(got) != 0 {
				t.Errorf("P3.2: Spell(%q, %v) = %q, %d, want ErrRange", names, ids, got, e)
			}
		}
	}
	for _, none := range [][]string{nil, {}, names[:0]} {
		for _, id := range []int{0, 1, -1} {
			if got, e := Spell(none, []int{id}); e != api.ErrRange || len(got) != 0 {
				t.Errorf("P3.2: Spell of no names and %d = %q, %d, want ErrRange", id, got, e)
			}
		}
	}
	many := make([]int, 1<<20)
	if got, e := Spell(names, append(many, 3)); e != api.ErrRange || len(got) != 0 {
		t.Errorf("P3.2: a wrong number after many others: %d strings, error %d", len(got), e)
	}
}

// TestAllSpellings compares Spell with its definition for all short lists of names and of numbers.
func TestAllSpellings(t *testing.T) {
	names := []string{"x", "", "y\n", "x"}
	testkit.Texts("012345", 4, func(digits string) {
		var ids []int
		for _, digit := range digits {
			ids = append(ids, int(digit-'1')) // from -1 to 4
		}
		for count := range len(names) + 1 {
			var want []string
			good := true
			for _, id := range ids {
				if good = good && 0 <= id && id < count; good {
					want = append(want, names[id])
				}
			}
			got, e := Spell(names[:count], ids)
			if !good && (e != api.ErrRange || len(got) != 0) {
				t.Fatalf("P3.2: Spell(%q, %v) = %q, %d, want ErrRange", names[:count], ids, got, e)
			}
			if good && (e != api.OK || !slices.Equal(got, want)) {
				t.Fatalf("P3.2: Spell(%q, %v) = %q, %d, want %q", names[:count], ids, got, e, want)
			}
		}
	})
}
