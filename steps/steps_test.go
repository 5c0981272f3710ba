package steps_test

import (
	"bytes"
	"reflect"
	"testing"

	"millstream/api"
	"millstream/copies"
	"millstream/steps"
)

// takes tells answers whose numbers are 1, 2, 3, .. till there is no next access: those that were asked for.
func takes(s *steps.Steps) []api.Access {
	var l []api.Access
	for a, ok := s.Next(); ok; a, ok = s.Next() {
		l = append(l, a)
		s.Take(api.Answer{V: uint64(len(l))})
	}
	return l
}

// Without an access there is no next one, and nothing to take.
func TestAtItsEnd(t *testing.T) {
	var s steps.Steps
	s.Take(api.Answer{V: 1})
	if a, ok := s.Next(); ok || !reflect.DeepEqual(a, api.Access{}) || s.Busy() {
		t.Error(a, ok)
	}
}

// An answer is told once to what goes on from it, and that may ask for another access.
func TestDo(t *testing.T) {
	var s steps.Steps
	var told []uint64
	s.Do(steps.Load(8), func(x api.Answer) {
		told = append(told, x.V)
		s.Do(steps.Set(16, 5), func(x api.Answer) { told = append(told, x.V) })
	})
	if !s.Busy() {
		t.Error("not busy")
	}
	want := []api.Access{{Kind: api.Load, At: 8, N: 8}, {Kind: api.Store, At: 16, N: 8, V: 5}}
	if l := takes(&s); !reflect.DeepEqual(l, want) || s.Busy() {
		t.Error(l)
	}
	if !reflect.DeepEqual(told, []uint64{1, 2}) {
		t.Error(told)
	}
}

// What Next tells is nobody else's.
func TestNextIsNew(t *testing.T) {
	var s steps.Steps
	s.Do(api.Access{Kind: api.Write, N: 3, B: []byte("abc")}, func(api.Answer) {})
	a, _ := s.Next()
	clear(a.B)
	if a, _ := s.Next(); !bytes.Equal(a.B, []byte("abc")) {
		t.Error(a)
	}
}

// A machine's accesses are done ahead of what goes on; of one at its end there are none.
func TestFollow(t *testing.T) {
	var s steps.Steps
	s.Follow(copies.Zero(0, 12), func() {
		s.Follow(copies.Zero(0, 0), func() { s.Do(steps.Store(4, 4, 9), func(api.Answer) {}) })
	})
	want := []api.Access{
		{Kind: api.Write, N: 8, B: make([]byte, 8)},
		{Kind: api.Write, At: 8, N: 4, B: make([]byte, 4)},
		{Kind: api.Store, At: 4, N: 4, V: 9},
	}
	if l := takes(&s); !reflect.DeepEqual(l, want) {
		t.Error(l)
	}
}

// Numbers are loaded, and stored, as a word or as half of one.
func TestAccesses(t *testing.T) {
	got := []api.Access{steps.Load(24), steps.LoadHalf(20), steps.Set(8, 7), steps.Store(12, 4, 9)}
	want := []api.Access{
		{Kind: api.Load, At: 24, N: 8},
		{Kind: api.Load, At: 20, N: 4},
		{Kind: api.Store, At: 8, N: 8, V: 7},
		{Kind: api.Store, At: 12, N: 4, V: 9},
	}
	if !reflect.DeepEqual(got, want) {
		t.Error(got)
	}
}
