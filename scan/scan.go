// Package scan is layer 1: numbers, ranges and quoted words. See shared/doc/01-scan.md.
package scan

import (
	"strconv"

	"mergelens/api"
)

// Format returns the digits of a number.
func Format(n int) string {
	if n < 0 || n > api.MaxNumber {
		return ""
	}
	return strconv.Itoa(n)
}

// Number reads a number.
func Number(s string, at int) (int, int, bool) {
	if at < 0 || at > len(s) {
		return 0, 0, false
	}
	end := digitsEnd(s, at)
	if end == at || s[at] == '0' && end > at+1 {
		return 0, 0, false
	}
	n, ok := value(s[at:end])
	if !ok {
		return 0, 0, false
	}
	return n, end, true
}

// digitsEnd returns the offset after the digits that begin at the offset at.
func digitsEnd(s string, at int) int {
	for at < len(s) && s[at] >= '0' && s[at] <= '9' {
		at++
	}
	return at
}

// value returns the number that decimal digits denote, and false if it is greater than MaxNumber.
func value(digits string) (int, bool) {
	n := 0
	for i := 0; i < len(digits); i++ {
		d := int(digits[i] - '0')
		// Compared before the multiplication, so that no run of digits, however long, wraps around.
		if n > (api.MaxNumber-d)/10 {
			return 0, false
		}
		n = 10*n + d
	}
	return n, true
}

// FormatRange returns the written form of a range.
func FormatRange(start int, count int) string {
	// The sum start + count may wrap around; this difference can not, since count is not negative.
	if start < 0 || count < 0 || start > api.MaxNumber-count {
		return ""
	}
	switch count {
	case 0:
		return Format(start) + ",0"
	case 1:
		return Format(start + 1)
	}
	return Format(start+1) + "," + Format(count)
}

// Range reads a range.
func Range(s string, at int) (int, int, int, bool) {
	first, end, ok := Number(s, at)
	if !ok {
		return 0, 0, 0, false
	}
	count := 1
	if end < len(s) && s[end] == ',' {
		count, end, ok = Number(s, end+1)
		if !ok {
			return 0, 0, 0, false
		}
	}
	start := first
	if count > 0 {
		start = first - 1
	}
	// A range has one written form only: this refuses "1,1", a first line 0 and a sum above MaxNumber.
	if FormatRange(start, count) != s[at:end] {
		return 0, 0, 0, false
	}
	return start, count, end, true
}
