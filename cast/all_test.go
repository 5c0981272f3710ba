package cast_test

import (
	"bytes"
	"math"
	"reflect"
	"slices"
	"testing"

	"millstream/api"
	"millstream/cast"
)

// did asks how a caster's messages ended so far.
func did(t *testing.T, c *cast.Caster, want ...api.Errno) {
	t.Helper()
	if l := c.Done(); !slices.Equal(l, want) {
		t.Fatal("done", l, "not", want)
	}
}

// stand asks where a caster's messages stand.
func stand(t *testing.T, c *cast.Caster, want ...int64) {
	t.Helper()
	if l := c.Places(); !slices.Equal(l, want) {
		t.Fatal("places", l, "not", want)
	}
}

// one holds a caster's accesses against those of the message that it is at; up to its last step it tells of those ahead of it alone.
func one(t *testing.T, c *cast.Caster, r api.Ring, tail int64, m api.Message, done []api.Errno, places []int64) (at int64) {
	t.Helper()
	l, at := steps(r, tail, m)
	does(t, c, load(r.Base+r.Size+8), api.Answer{V: uint64(tail)})
	for i, a := range l {
		did(t, c, done...)
		stand(t, c, places...)
		does(t, c, a, answers[i%len(answers)])
	}
	return at
}

// P11.1: the accesses are those of the sends, one behind the other, each with the tail as it is told then; each that ended is told at once.
func TestAll(t *testing.T) {
	l := []api.Message{message(5, 3), message(6, 0), message(7, 8)}
	c := cast.All(small, l)
	did(t, c)
	stand(t, c)
	one(t, c, small, 0, l[0], nil, nil)
	did(t, c, api.OK)
	stand(t, c, 0)
	one(t, c, small, 120, l[1], []api.Errno{api.OK}, []int64{0})
	did(t, c, api.OK, api.OK)
	stand(t, c, 0, 120)
	one(t, c, small, 56, l[2], []api.Errno{api.OK, api.OK}, []int64{0, 120})
	did(t, c, api.OK, api.OK, api.OK)
	stand(t, c, 0, 120, 64)
	atEnd(t, c)
	did(t, c, api.OK, api.OK, api.OK)
	stand(t, c, 0, 120, 64)
}

// P11.1: what a send refuses ended without an access, once those ahead of it are at their ends; a message behind it is sent all the same.
func TestRefusedMessages(t *testing.T) {
	long, odd, both := message(1, 9), message(0, 3), message(-1, 9)
	c := cast.All(small, []api.Message{long, odd, both})
	did(t, c, api.ErrLong, api.ErrArg, api.ErrArg)
	stand(t, c)
	atEnd(t, c)
	sent := message(2, 0)
	c = cast.All(small, []api.Message{odd, sent, long, message(math.MinInt32, 0), sent, odd})
	one(t, c, small, 0, sent, []api.Errno{api.ErrArg}, nil)
	done := []api.Errno{api.ErrArg, api.OK, api.ErrLong, api.ErrArg}
	did(t, c, done...)
	one(t, c, small, 8, sent, done, []int64{0})
	did(t, c, api.ErrArg, api.OK, api.ErrLong, api.ErrArg, api.OK, api.ErrArg)
	stand(t, c, 0, 8)
	atEnd(t, c)
}

// P11.1: of a broadcast that may not be each message is refused.
func TestAllOfNoBroadcast(t *testing.T) {
	for _, r := range bad {
		c := cast.All(r, []api.Message{message(1, 0), message(1, 99999), message(0, 3)})
		did(t, c, api.ErrArg, api.ErrArg, api.ErrArg)
		stand(t, c)
		atEnd(t, c)
	}
}

// P11.1: the first MaxOps messages are sent, those that are refused count.
func TestHowMany(t *testing.T) {
	for _, n := range []int{1, 2, 63, 64, 65, 66, 1000} {
		var l []api.Message
		for i := range n {
			l = append(l, message(int32(i), 0))
		}
		c := cast.All(small, l)
		done, places := []api.Errno{api.ErrArg}, []int64{}
		for i, m := range l[1:min(n, api.MaxOps)] {
			places = append(places, one(t, c, small, int64(8*i), m, done, places))
			done = append(done, api.OK)
		}
		did(t, c, done...)
		stand(t, c, places...)
		atEnd(t, c)
	}
}

// P11.1: a machine goes on though nobody asked it for its next access, from one message to the next one.
func TestTakeAllAlone(t *testing.T) {
	c := cast.All(small, []api.Message{message(1, 0), message(2, 3)})
	for range 5 {
		c.Take(api.Answer{V: 24})
	}
	did(t, c, api.OK)
	stand(t, c, 24)
	one(t, c, small, 8, message(2, 3), []api.Errno{api.OK}, []int64{24})
	stand(t, c, 24, 8)
}

// P11.1: what is handed in is neither changed nor kept, its spare room neither; what is answered is new memory.
func TestMemoryOfAll(t *testing.T) {
	all := row(64)
	l := make([]api.Message, 2, 9)
	l[0], l[1] = api.Message{Type: 5, Data: all[:3]}, api.Message{Type: 6, Data: all[8:16]}
	c := cast.All(small, l)
	if !bytes.Equal(all, row(64)) || !reflect.DeepEqual(l[2:9], make([]api.Message, 7)) {
		t.Fatal(all, l[:9])
	}
	clear(all)
	clear(l)
	one(t, c, small, 0, message(5, 3), nil, nil)
	c.Done()[0], c.Places()[0] = 99, 99
	_, _ = append(c.Done(), 77), append(c.Places(), 77)
	one(t, c, small, 16, api.Message{Type: 6, Data: row(16)[8:]}, []api.Errno{api.OK}, []int64{0})
	clear(c.Done())
	did(t, c, api.OK, api.OK)
	stand(t, c, 0, 16)
	if !bytes.Equal(all, make([]byte, 64)) || !reflect.DeepEqual(l[:9], make([]api.Message, 9)) {
		t.Fatal(all, l[:9])
	}
}

// P11.1: casters don't depend on one another.
func TestCastersAreTheirOwn(t *testing.T) {
	l := []api.Message{message(1, 0), message(2, 8)}
	x, y := cast.All(small, l), cast.All(small, l)
	one(t, x, small, 8, l[0], nil, nil)
	one(t, y, small, 48, l[0], nil, nil)
	one(t, y, small, 56, l[1], []api.Errno{api.OK}, []int64{48})
	did(t, x, api.OK)
	stand(t, x, 8)
	one(t, x, small, 16, l[1], []api.Errno{api.OK}, []int64{8})
	stand(t, x, 8, 16)
	stand(t, y, 48, 64)
}

// P11.1: whatever a caster is told.
func TestAllToldAnything(t *testing.T) {
	ends := map[api.Errno]int{}
	for start := range 2000 {
		c := chance(start)
		r := api.Ring{Base: 8 * c.below(100), Size: api.MinRing << c.below(4)}
		var l []api.Message
		for range c.below(12) {
			l = append(l, message(int32(c.below(9)), c.below(r.Size/7)))
		}
		x := cast.All(r, l)
		var done []api.Errno
		var places []int64
		for _, m := range l {
			e := api.OK
			if m.Type < 1 {
				e = api.ErrArg
			} else if len(m.Data) > r.Size/8 {
				e = api.ErrLong
			} else {
				places = append(places, one(t, x, r, c.position(), m, done, places))
			}
			done = append(done, e)
			ends[e]++
		}
		did(t, x, done...)
		stand(t, x, places...)
		atEnd(t, x)
	}
	if ends[api.OK] < 1000 || ends[api.ErrArg] < 300 || ends[api.ErrLong] < 300 {
		t.Error("too few of an end", ends)
	}
}
