// Package steps is what machines are made of that go on in closures: the access that comes next, and what goes on from its answer.
package steps

import (
	"bytes"

	"millstream/api"
)

const (
	wordBytes = 8 // bytes of a number that a word holds
	halfBytes = 4
)

// Steps is where a machine is. Without an access it is at its end.
type Steps struct {
	access api.Access
	then   func(x api.Answer) // nil at the end
}

// Machine does accesses, one behind the other.
type Machine interface {
	Next() (api.Access, bool)
	Take(x api.Answer)
}

// Busy asks whether there is a next access.
func (s *Steps) Busy() bool {
	return s.then != nil
}

// Next is the next access.
func (s *Steps) Next() (api.Access, bool) {
	if !s.Busy() {
		return api.Access{}, false
	}
	a := s.access
	a.B = bytes.Clone(a.B)
	return a, true
}

// Take tells what the access told.
func (s *Steps) Take(x api.Answer) {
	if !s.Busy() {
		return
	}
	then := s.then
	*s = Steps{} // it is at its end, unless another access is asked for
	then(x)
}

// Do asks for an access, from whose answer it goes on.
func (s *Steps) Do(a api.Access, then func(x api.Answer)) {
	s.access, s.then = a, then
}

// Follow does a machine's accesses, then goes on.
func (s *Steps) Follow(m Machine, on func()) {
	a, ok := m.Next()
	if !ok {
		on()
		return
	}
	s.Do(a, func(x api.Answer) {
		m.Take(x)
		s.Follow(m, on)
	})
}

// Load is the access that loads the number that stands in a word.
func Load(at int) api.Access {
	return api.Access{Kind: api.Load, At: at, N: wordBytes}
}

// LoadHalf is the access that loads the number that stands in half a word.
func LoadHalf(at int) api.Access {
	return api.Access{Kind: api.Load, At: at, N: halfBytes}
}

// Store is the access that stores a number of n bytes.
func Store(at, n int, v uint64) api.Access {
	return api.Access{Kind: api.Store, At: at, N: n, V: v}
}

// Set is the access that stores a number in a word.
func Set(at int, v uint64) api.Access {
	return Store(at, wordBytes, v)
}
