// Package rings is what the layers of rings share: where what belongs to a ring stands in its buffer, and copies of what it hands on.
package rings

import (
	"bytes"

	"millstream/api"
	"millstream/word"
)

const wordBytes = 8 // bytes of a ring's numbers

// How far behind a ring's records each of its numbers stands.
const (
	tailBehind = 0
	copyBehind = 8
	headBehind = 16
)

// Tail is where a ring's tail stands.
func Tail(r api.Ring) int {
	return r.Base + r.Size + tailBehind
}

// HeadCopy is where the copy of a ring's head stands.
func HeadCopy(r api.Ring) int {
	return r.Base + r.Size + copyBehind
}

// Head is where a ring's head stands.
func Head(r api.Ring) int {
	return r.Base + r.Size + headBehind
}

// End is where the last of a ring's numbers ends.
func End(r api.Ring) int {
	return Head(r) + wordBytes
}

// Place is a position's place.
func Place(r api.Ring, position int64) int64 {
	return word.Mask(position, int64(r.Size))
}

// At is where a position's place stands.
func At(r api.Ring, position int64) int {
	return r.Base + int(Place(r, position))
}

// Messages are messages in new memory.
func Messages(l []api.Message) []api.Message {
	c := make([]api.Message, len(l))
	for i, m := range l {
		c[i] = api.Message{Type: m.Type, Data: bytes.Clone(m.Data)}
	}
	return c
}
