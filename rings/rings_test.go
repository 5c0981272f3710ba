package rings_test

import (
	"math"
	"testing"

	"millstream/api"
	"millstream/rings"
)

// A ring's numbers stand behind its records.
func TestNumbers(t *testing.T) {
	r := api.Ring{Base: 16, Size: 64}
	if a, b, c := rings.Tail(r), rings.HeadCopy(r), rings.Head(r); a != 80 || b != 88 || c != 96 {
		t.Error(a, b, c)
	}
}

// A position's place isn't below 0.
func TestPlace(t *testing.T) {
	r := api.Ring{Base: 16, Size: 64}
	for _, x := range []struct{ position, place int64 }{
		{0, 0}, {8, 8}, {63, 63}, {64, 0}, {200, 8}, {-1, 63}, {-8, 56}, {-64, 0},
		{math.MaxInt64, 63}, {math.MinInt64, 0}, {1<<32 + 5, 5},
	} {
		if v, at := rings.Place(r, x.position), rings.At(r, x.position); v != x.place || at != 16+int(x.place) {
			t.Error(x.position, v, at)
		}
	}
}
