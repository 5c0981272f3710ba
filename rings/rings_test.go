package rings_test

import (
	"math"
	"reflect"
	"testing"

	"millstream/api"
	"millstream/rings"
)

// A ring's numbers stand behind its records.
func TestNumbers(t *testing.T) {
	r := api.Ring{Base: 16, Size: 64}
	if a, b, c, d := rings.Tail(r), rings.HeadCopy(r), rings.Head(r), rings.End(r); a != 80 || b != 88 || c != 96 || d != 104 {
		t.Error(a, b, c, d)
	}
}

// A broadcast's numbers stand behind its records, too.
func TestNumbersOfBroadcasts(t *testing.T) {
	r := api.Ring{Base: 16, Size: 64}
	if a, b, c := rings.Intent(r), rings.CastTail(r), rings.Latest(r); a != 80 || b != 88 || c != 96 {
		t.Error(a, b, c)
	}
}

// A message may have an eighth of the ring's bytes.
func TestLongest(t *testing.T) {
	for _, x := range []struct{ size, longest int }{{64, 8}, {128, 16}, {8192, 1024}} {
		if n := rings.Longest(api.Ring{Base: 16, Size: x.size}); n != x.longest {
			t.Error(x.size, n)
		}
	}
}

// A position's place isn't below 0.
func TestPlace(t *testing.T) {
	r := api.Ring{Base: 16, Size: 64}
	for _, x := range []struct{ position, place int64 }{
		{0, 0}, {8, 8}, {63, 63}, {64, 0}, {200, 8}, {-1, 63}, {-8, 56}, {-64, 0},
		{math.MaxInt64, 63}, {math.MinInt64, 0}, {1<<32 + 5, 5},
	} {
		if v, at := rings.Place(r, x.position), rings.At(r, x.position); v != x.place || at != 16+int(x.place) {
			t.Error(x.position, v, at)
		}
	}
}

// Messages are the same, and none of their memory is.
func TestMessages(t *testing.T) {
	if l := rings.Messages(nil); len(l) != 0 {
		t.Error(l)
	}
	l := []api.Message{{Type: 1, Data: []byte("abc")}, {Type: 2}}
	c := rings.Messages(l)
	if !reflect.DeepEqual(c, l) {
		t.Error(c)
	}
	clear(c[0].Data)
	clear(c)
	if !reflect.DeepEqual(l, []api.Message{{Type: 1, Data: []byte("abc")}, {Type: 2}}) {
		t.Error(l)
	}
}
