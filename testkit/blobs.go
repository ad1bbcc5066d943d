package testkit

import (
	"strconv"
	"strings"

	"mergelens/api"
)

// LinesOf is the definition of the lines of a blob.
func LinesOf(blob string) []string {
	list := strings.SplitAfter(blob, "\n")
	if list[len(list)-1] == "" {
		return list[:len(list)-1]
	}
	return list
}

// IsTooLarge is the definition of the limits of a blob with these lines.
func IsTooLarge(lines []string) bool {
	bytes := 0
	for _, line := range lines {
		bytes += len(line)
	}
	return bytes > api.MaxBlob || len(lines) > api.MaxLines
}

// MixedBlobs returns two blobs that have many lines in common. The function intn returns any number from 0 to n - 1.
func MixedBlobs(intn func(n int) int) (string, string) {
	var a, b strings.Builder
	letters := 1 + intn(40)
	line := func() string { return strconv.Itoa(intn(letters)) + "\n" }
	for range intn(60) {
		switch same := line(); intn(16) {
		case 0:
			a.WriteString(same)
		case 1:
			b.WriteString(same)
		case 2:
			a.WriteString(same)
			b.WriteString(line())
		default:
			a.WriteString(same)
			b.WriteString(same)
		}
	}
	ends := []string{"", "x", "y"}
	end := ends[intn(3)]
	return a.String() + end, b.String() + []string{end, ends[intn(3)]}[intn(2)]
}
