package lost

import (
	"math"
	"math/rand"
	"slices"
	"testing"

	"mergelens/api"
)

// TestProject checks results that are written out.
func TestProject(t *testing.T) {
	l := []api.Merged{{Line: 4, Parents: 1}, {Line: 5, Parents: 6}, {Line: 4, Parents: 3}, {Line: -7}, {Line: 4, Parents: 1 << 31}, {Line: 8, Parents: 1<<32 - 1}}
	for _, c := range []struct {
		p    int
		want []int
	}{
		{0, []int{4, 4, 8}}, {1, []int{5, 4, 8}}, {2, []int{5, 8}}, {3, []int{8}}, {30, []int{8}}, {31, []int{4, 8}},
		{-1, nil}, {-2, nil}, {-32, nil}, {32, nil}, {33, nil}, {63, nil}, {64, nil}, {65, nil}, {256, nil}, {1 << 32, nil}, {-1 << 32, nil}, {math.MaxInt, nil}, {math.MinInt, nil},
	} {
		if got := Project(l, c.p); !slices.Equal(got, c.want) {
			t.Errorf("P15.2: Project(%v, %d) = %v, want %v", l, c.p, got, c.want)
		}
		if got := Project(nil, c.p); len(got) > 0 {
			t.Errorf("P15.2: Project of nothing and %d = %v", c.p, got)
		}
	}
}

// TestAnyElements compares Project with its definition for lists that Coalesce need not return.
func TestAnyElements(t *testing.T) {
	r := rand.New(rand.NewSource(2))
	for _, length := range []int{1, 2, 40, 3 * api.MaxLines} {
		l := make([]api.Merged, length)
		for i := range l {
			l[i] = api.Merged{Line: r.Intn(9) - 4, Parents: r.Uint32() & r.Uint32()}
		}
		for p := -70; p <= 70; p++ {
			if got := Project(l, p); !slices.Equal(got, projected(l, p)) {
				t.Errorf("P15.2: Project of %d elements and %d has %d lines, not %d", length, p, len(got), len(projected(l, p)))
			}
		}
	}
}
