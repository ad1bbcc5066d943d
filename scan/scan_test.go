package scan

import (
	"math"
	"regexp"
	"strconv"
	"strings"
	"testing"

	"mergelens/api"
	"mergelens/testkit"
)

// numbers lists small numbers, those around powers of ten and those around the limits.
func numbers() []int {
	list := []int{math.MinInt, math.MinInt + 1, math.MaxInt - 1, math.MaxInt}
	for n := -3; n <= 130; n++ {
		list = append(list, n)
	}
	for p := 1000; p <= 10_000_000_000; p *= 10 {
		list = append(list, p-1, p, p+1)
	}
	for d := -3; d <= 3; d++ {
		list = append(list, api.MaxNumber+d, math.MaxUint32+d, -api.MaxNumber+d)
	}
	return list
}

func TestFormat(t *testing.T) {
	for _, c := range []struct {
		n    int
		want string
	}{
		{0, "0"}, {7, "7"}, {10, "10"}, {120, "120"}, {999999999, "999999999"},
		{api.MaxNumber - 1, "2147483646"}, {api.MaxNumber, "2147483647"},
		{api.MaxNumber + 1, ""}, {math.MaxInt, ""}, {-1, ""}, {-api.MaxNumber, ""}, {math.MinInt, ""},
		{1 << 32, ""}, {1<<32 + 5, ""},
	} {
		if got := Format(c.n); got != c.want {
			t.Errorf("P1.1: Format(%d) = %q, want %q", c.n, got, c.want)
		}
	}
}

func TestNumber(t *testing.T) {
	for _, c := range []struct {
		s      string
		at     int
		n, end int
		ok     bool
	}{
		{"0", 0, 0, 1, true}, {"7", 0, 7, 1, true}, {"a12b", 1, 12, 3, true}, {"a12b", 2, 2, 3, true}, {"10,20", 3, 20, 5, true},
		{"0x", 0, 0, 1, true}, {"0,1", 0, 0, 1, true}, {"100", 0, 100, 3, true},
		{"012", 0, 0, 0, false}, {"012", 1, 12, 3, true}, {"00", 0, 0, 0, false}, {"00", 1, 0, 2, true},
		{"2147483646", 0, 2147483646, 10, true}, {"2147483647", 0, 2147483647, 10, true}, {"2147483648", 0, 0, 0, false},
		{"2147483650", 0, 0, 0, false}, {"4294967297", 0, 0, 0, false}, {"21474836470", 0, 0, 0, false},
		{"18446744073709551617", 0, 0, 0, false}, {"99999999999999999999", 0, 0, 0, false},
		{"1" + strings.Repeat("0", 10000), 0, 0, 0, false}, {strings.Repeat("0", 10000), 0, 0, 0, false},
		{"", 0, 0, 0, false}, {"x", 0, 0, 0, false}, {"-5", 0, 0, 0, false}, {"+5", 0, 0, 0, false}, {" 5", 0, 0, 0, false},
		{"/", 0, 0, 0, false}, {":", 0, 0, 0, false}, {"1:", 0, 1, 1, true}, {"1/", 0, 1, 1, true}, {"5\x00", 0, 5, 1, true}, {"\u0663", 0, 0, 0, false},
		{"5", 1, 0, 0, false}, {"5", 2, 0, 0, false}, {"5", -1, 0, 0, false}, {"5", math.MaxInt, 0, 0, false}, {"5", math.MinInt, 0, 0, false},
	} {
		if n, end, ok := Number(c.s, c.at); n != c.n || end != c.end || ok != c.ok {
			t.Errorf("P1.1: Number(%.30q, %d) = %d, %d, %v, want %d, %d, %v", c.s, c.at, n, end, ok, c.n, c.end, c.ok)
		}
	}
}

// TestNumberOfAllTexts compares Number with the definition, read by another parser.
func TestNumberOfAllTexts(t *testing.T) {
	digits := regexp.MustCompile(`^[0-9]+`)
	check := func(s string) {
		for at := 0; at <= len(s); at++ {
			read := digits.FindString(s[at:])
			n, err := strconv.Atoi(read)
			want := err == nil && n <= api.MaxNumber && (read == "0" || read[0] != '0')
			if !want {
				n, read = 0, ""
			}
			end := at + len(read)
			if !want {
				end = 0
			}
			if gotN, gotEnd, ok := Number(s, at); gotN != n || gotEnd != end || ok != want {
				t.Fatalf("P1.1: Number(%q, %d) = %d, %d, %v, want %d, %d, %v", s, at, gotN, gotEnd, ok, n, end, want)
			}
		}
	}
	testkit.Texts("0159,x", 5, check)
	for _, n := range numbers() {
		check(strconv.Itoa(n))
		check("0" + strconv.Itoa(n) + "9")
	}
}

func TestFormatRange(t *testing.T) {
	for _, c := range []struct {
		start, count int
		want         string
	}{
		{4, 1, "5"}, {0, 1, "1"}, {4, 0, "4,0"}, {0, 0, "0,0"}, {0, 3, "1,3"}, {9, 10, "10,10"},
		{-1, 1, ""}, {-1, 0, ""}, {1, -1, ""}, {-1, -1, ""}, {-5, 7, ""}, {7, -5, ""},
		{api.MaxNumber, 0, "2147483647,0"}, {api.MaxNumber + 1, 0, ""}, {api.MaxNumber, 1, ""},
		{api.MaxNumber - 1, 1, "2147483647"}, {api.MaxNumber - 1, 2, ""}, {api.MaxNumber - 2, 2, "2147483646,2"},
		{0, api.MaxNumber, "1,2147483647"}, {0, api.MaxNumber + 1, ""}, {1, api.MaxNumber, ""},
		{2, math.MaxInt, ""}, {math.MaxInt, 2, ""}, {math.MaxInt, math.MaxInt, ""}, {math.MaxInt, 0, ""}, {math.MaxInt, 1, ""},
		{math.MinInt, 0, ""}, {math.MinInt, math.MinInt, ""}, {math.MinInt, math.MaxInt, ""}, {0, math.MinInt, ""}, {math.MaxInt, math.MinInt, ""},
	} {
		if got := FormatRange(c.start, c.count); got != c.want {
			t.Errorf("P1.2: FormatRange(%d, %d) = %q, want %q", c.start, c.count, got, c.want)
		}
	}
}

func TestRange(t *testing.T) {
	for _, c := range []struct {
		s                 string
		at                int
		start, count, end int
		ok                bool
	}{
		{"5", 0, 4, 1, 1, true}, {"1", 0, 0, 1, 1, true}, {"-5 +", 1, 4, 1, 2, true}, {"4,0", 0, 4, 0, 3, true}, {"0,0", 0, 0, 0, 3, true},
		{"1,3 x", 0, 0, 3, 3, true}, {"12,34,56", 0, 11, 34, 5, true}, {"12,34,56", 3, 33, 56, 8, true}, {"5.", 0, 4, 1, 1, true}, {"5 ,2", 0, 4, 1, 1, true},
		{"1,1", 0, 0, 0, 0, false}, {"5,1", 0, 0, 0, 0, false}, {"0,1", 0, 0, 0, 0, false}, {"0", 0, 0, 0, 0, false}, {"0,2", 0, 0, 0, 0, false},
		{"5,", 0, 0, 0, 0, false}, {"5,x", 0, 0, 0, 0, false}, {"5,-1", 0, 0, 0, 0, false}, {"5, 2", 0, 0, 0, 0, false}, {"5,02", 0, 0, 0, 0, false}, {"5,00", 0, 0, 0, 0, false},
		{"05", 0, 0, 0, 0, false}, {"05,2", 0, 0, 0, 0, false}, {",2", 0, 0, 0, 0, false}, {"x", 0, 0, 0, 0, false}, {"", 0, 0, 0, 0, false},
		{"2147483647", 0, api.MaxNumber - 1, 1, 10, true}, {"2147483647,0", 0, api.MaxNumber, 0, 12, true}, {"2147483646,2", 0, api.MaxNumber - 2, 2, 12, true},
		{"1,2147483647", 0, 0, api.MaxNumber, 12, true}, {"2,2147483647", 0, 0, 0, 0, false}, {"2147483647,2", 0, 0, 0, 0, false},
		{"2147483647,2147483647", 0, 0, 0, 0, false}, {"2147483648", 0, 0, 0, 0, false}, {"5,2147483648", 0, 0, 0, 0, false},
		{"5", 1, 0, 0, 0, false}, {"5", 2, 0, 0, 0, false}, {"5", -1, 0, 0, 0, false}, {"5", math.MaxInt, 0, 0, 0, false}, {"5", math.MinInt, 0, 0, 0, false},
	} {
		if start, count, end, ok := Range(c.s, c.at); start != c.start || count != c.count || end != c.end || ok != c.ok {
			t.Errorf("P1.2: Range(%q, %d) = %d, %d, %d, %v, want %d, %d, %d, %v", c.s, c.at, start, count, end, ok, c.start, c.count, c.end, c.ok)
		}
	}
}

// TestRangeOfAllTexts compares Range with the written forms of all small ranges.
func TestRangeOfAllTexts(t *testing.T) {
	type lines struct{ start, count int }
	written := map[string]lines{}
	for start := range 1000 {
		for count := range 1000 {
			first := start + 1
			if count == 0 {
				first = start
			}
			form := strconv.Itoa(first)
			if count != 1 {
				form += "," + strconv.Itoa(count)
			}
			written[form] = lines{start, count}
		}
	}
	// What a range, if there is one, extends over: the digits, and with a comma the digits that follow it.
	extent := regexp.MustCompile(`^[0-9]+(,[0-9]*)?`)
	testkit.Texts("0129,x", 6, func(s string) {
		read := extent.FindString(s)
		want, wantOK := written[read]
		if len(read) > 3 && !strings.Contains(read, ",") {
			return // not one of the small ranges
		}
		if i := strings.IndexByte(read, ','); i > 3 || i >= 0 && len(read)-i > 4 {
			return
		}
		wantEnd := 0
		if wantOK {
			wantEnd = len(read)
		}
		if start, count, end, ok := Range(s, 0); start != want.start || count != want.count || end != wantEnd || ok != wantOK {
			t.Fatalf("P1.2: Range(%q, 0) = %d, %d, %d, %v, want %v, %d, %v", s, start, count, end, ok, want, wantEnd, wantOK)
		}
	})
}

// TestNumbersBack checks the first two parts of P1.5.
func TestNumbersBack(t *testing.T) {
	for _, a := range numbers() {
		if s := Format(a); s != "" {
			if n, end, ok := Number(s, 0); n != a || end != len(s) || !ok {
				t.Errorf("P1.5: Number(Format(%d), 0) = %d, %d, %v", a, n, end, ok)
			}
		}
		for _, b := range numbers() {
			s := FormatRange(a, b)
			if s == "" {
				continue
			}
			if start, count, end, ok := Range(s, 0); start != a || count != b || end != len(s) || !ok {
				t.Errorf("P1.5: Range(FormatRange(%d, %d), 0) = %d, %d, %d, %v", a, b, start, count, end, ok)
			}
		}
	}
}
