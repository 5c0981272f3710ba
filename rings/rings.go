// Package rings is what the layers of rings and broadcasts share: where what belongs to one stands in its buffer, how long a message may be, and copies of what is handed on.
package rings

import (
	"bytes"

	"millstream/api"
	"millstream/word"
)

const (
	wordBytes = 8 // bytes of a ring's numbers
	share     = 8 // a message may have a ring's bytes divided by it
)

// How far behind a ring's records each of its numbers stands.
const (
	tailBehind = 0
	copyBehind = 8
	headBehind = 16
)

// How far behind a broadcast's records each of its numbers stands.
const (
	intentBehind   = 0
	castTailBehind = 8
	latestBehind   = 16
)

// Tail is where a ring's tail stands.
func Tail(r api.Ring) int {
	return r.Base + r.Size + tailBehind
}

// HeadCopy is where the copy of a ring's head stands.
func HeadCopy(r api.Ring) int {
	return r.Base + r.Size + copyBehind
}

// Head is where a ring's head stands.
func Head(r api.Ring) int {
	return r.Base + r.Size + headBehind
}

// End is where the last of a ring's numbers ends.
func End(r api.Ring) int {
	return Head(r) + wordBytes
}

// Intent is where a broadcast's intent stands: the position up to which records are being overwritten.
func Intent(r api.Ring) int {
	return r.Base + r.Size + intentBehind
}

// CastTail is where a broadcast's tail stands.
func CastTail(r api.Ring) int {
	return r.Base + r.Size + castTailBehind
}

// Latest is where the position of a broadcast's last record stands.
func Latest(r api.Ring) int {
	return r.Base + r.Size + latestBehind
}

// Longest is how many bytes a message may have.
func Longest(r api.Ring) int {
	return r.Size / share
}

// Place is a position's place.
func Place(r api.Ring, position int64) int64 {
	return word.Mask(position, int64(r.Size))
}

// At is where a position's place stands.
func At(r api.Ring, position int64) int {
	return r.Base + int(Place(r, position))
}

// Messages are messages in new memory.
func Messages(l []api.Message) []api.Message {
	c := make([]api.Message, len(l))
	for i, m := range l {
		c[i] = api.Message{Type: m.Type, Data: bytes.Clone(m.Data)}
	}
	return c
}
