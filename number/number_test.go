package number

import (
	"math"
	"testing"
)

func checkEdges[T Integer](t *testing.T, least, most T) {
	t.Helper()
	if !Within(least, least, most) || !Within(most, least, most) {
		t.Errorf("the edges %d and %d belong to what is between them", least, most)
	}
	if Within(least-1, least, most) || Within(most+1, least, most) {
		t.Errorf("what is outside %d and %d is not between them", least, most)
	}
	if Within(least, most, least) {
		t.Errorf("nothing is from %d to %d", most, least)
	}
}

func TestWithin(t *testing.T) {
	checkEdges[int](t, 0, 1000000)
	checkEdges[int8](t, -127, 126)
	checkEdges[int64](t, math.MinInt64+1, math.MaxInt64-1)
	checkEdges[byte](t, '!', 'u')
	checkEdges[uint64](t, 1, math.MaxUint64-1)
}
