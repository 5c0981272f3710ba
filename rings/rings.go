// Package rings tells where what belongs to a ring stands in its buffer.
package rings

import (
	"millstream/api"
	"millstream/word"
)

// How far behind a ring's records each of its numbers stands.
const (
	tailBehind = 0
	copyBehind = 8
	headBehind = 16
)

// Tail is where a ring's tail stands.
func Tail(r api.Ring) int {
	return r.Base + r.Size + tailBehind
}

// HeadCopy is where the copy of a ring's head stands.
func HeadCopy(r api.Ring) int {
	return r.Base + r.Size + copyBehind
}

// Head is where a ring's head stands.
func Head(r api.Ring) int {
	return r.Base + r.Size + headBehind
}

// Place is a position's place.
func Place(r api.Ring, position int64) int64 {
	return word.Mask(position, int64(r.Size))
}

// At is where a position's place stands.
func At(r api.Ring, position int64) int {
	return r.Base + int(Place(r, position))
}
