package ring_test

import (
	"bytes"
	"math"
	"reflect"
	"slices"
	"testing"

	"millstream/api"
	"millstream/ring"
	"millstream/ringfix"
	"millstream/ringget"
	"millstream/ringput"
	"millstream/sched"
)

// small is a ring that stands behind some bytes: its records at 16, its tail at 80, the head's copy at 88, the head at 96.
var small = api.Ring{Base: 16, Size: 64}

// bad are rings that may not be.
var bad = []api.Ring{
	{}, {Base: 4, Size: 64}, {Size: 32}, {Size: 96}, {Base: -8, Size: 64}, {Base: api.MaxBuffer, Size: 64},
	{Base: api.MaxBuffer - 64 - 24, Size: 64}, {Size: 16384}, {Size: -64}, {Size: math.MinInt}, {Base: math.MaxInt - 7, Size: 64},
}

// row is n bytes that are 1, 2, 3, .., none of them 0.
func row(n int) []byte {
	l := make([]byte, n)
	for i := range l {
		l[i] = byte(i%255 + 1)
	}
	return l
}

// message is one whose bytes are told by their number.
func message(typ int32, n int) api.Message { return api.Message{Type: typ, Data: row(n)} }

// header is a record's, by its halves.
func header(length, typ int32) uint64 {
	return uint64(uint32(length)) + uint64(uint32(typ))<<32
}

func load(at int) api.Access { return api.Access{Kind: api.Load, At: at, N: 8} }

func half(at int) api.Access { return api.Access{Kind: api.Load, At: at, N: 4} }

func store(at int, v uint64) api.Access { return api.Access{Kind: api.Store, At: at, N: 8, V: v} }

func length(at int, v uint64) api.Access { return api.Access{Kind: api.Store, At: at, N: 4, V: v} }

func cas(at int, v, w uint64) api.Access {
	return api.Access{Kind: api.Cas, At: at, N: 8, V: v, W: w}
}

func read(at, n int) api.Access { return api.Access{Kind: api.Read, At: at, N: n} }

func write(at int, b []byte) api.Access {
	return api.Access{Kind: api.Write, At: at, N: len(b), B: b}
}

// turn is an access that a machine must do next, and what it is told then.
type turn struct {
	a api.Access
	x api.Answer
}

// number is the turn of a number that is loaded.
func number(at int, v uint64) turn { return turn{load(at), api.Answer{V: v}} }

// does is the turn of an access that nothing is told of, but that it was done.
func does(a api.Access) turn { return turn{a, api.Answer{Done: true}} }

// same asks whether messages are the same; a list that is empty may be nil.
func same(l, m []api.Message) bool {
	return slices.EqualFunc(l, m, func(x, y api.Message) bool { return x.Type == y.Type && bytes.Equal(x.Data, y.Data) })
}

// plain is an access whose list is nil where it is empty: both mean the same.
func plain(a api.Access) api.Access {
	if len(a.B) == 0 {
		a.B = nil
	}
	return a
}

// is asks whether a machine's next access is this one, always the same.
func is(t *testing.T, m sched.Machine, want api.Access) {
	t.Helper()
	for range 2 {
		if a, ok := m.Next(); !ok || !reflect.DeepEqual(plain(a), plain(want)) {
			t.Fatal(a, ok, "not", want)
		}
	}
}

// follow holds a machine's accesses against turns.
func follow(t *testing.T, m sched.Machine, l ...turn) {
	t.Helper()
	for i, x := range l {
		t.Log("turn", i)
		is(t, m, x.a)
		m.Take(x.x)
	}
}

// atEnd asks whether a machine is at its end, and stays there, whatever it is told.
func atEnd(t *testing.T, m sched.Machine) {
	t.Helper()
	for _, x := range []api.Answer{{}, {Done: true}, {V: header(16, 1)}, {V: 8, Done: true, B: row(9)}} {
		if a, ok := m.Next(); ok || !reflect.DeepEqual(a, api.Access{}) {
			t.Fatal("an access at the end", a, ok)
		}
		m.Take(x)
	}
}

// did asks how a filler's messages ended so far.
func did(t *testing.T, f *ring.Filler, want ...api.Errno) {
	t.Helper()
	if l := f.Done(); !slices.Equal(l, want) {
		t.Fatal("done", l, "not", want)
	}
}

// stand asks where a filler's messages stand.
func stand(t *testing.T, f *ring.Filler, want ...int64) {
	t.Helper()
	if l := f.Places(); !slices.Equal(l, want) {
		t.Fatal("places", l, "not", want)
	}
}

// has asks which messages a drainer has got so far.
func has(t *testing.T, d *ring.Drainer, want ...api.Message) {
	t.Helper()
	if l := d.Messages(); !same(l, want) {
		t.Fatal("messages", l, "not", want)
	}
}

// padded asks how many bytes a mender has made padding so far.
func padded(t *testing.T, m *ring.Mender, want int) {
	t.Helper()
	if n := m.Bytes(); n != want {
		t.Fatal("padding", n, "not", want)
	}
}

// full are the turns of a put of 9 bytes or more that finds no room.
func full() []turn { return []turn{number(88, 0), number(80, 64), number(96, 0)} }

// put are the turns of a put of a type and no bytes, at a place behind which there is room.
func put(place int, typ int32) []turn {
	v := uint64(place)
	return []turn{
		number(88, v), number(80, v), does(cas(80, v, v+8)),
		does(store(16+place, header(-8, typ))), does(length(16+place, 8)),
	}
}

// nothing are the turns of a get that finds nothing.
func nothing() []turn { return []turn{number(96, 0), number(16, 0)} }

// P10.1: the accesses are those of the puts, one behind the other; each that ended is told at once.
func TestFill(t *testing.T) {
	f := ring.Fill(small, []api.Message{message(5, 3), message(6, 0), message(7, 8)}, 0)
	did(t, f)
	stand(t, f)
	follow(t, f, number(88, 0), number(80, 0), does(cas(80, 0, 16)), does(store(16, header(-11, 5))), does(write(24, row(3))))
	did(t, f)
	stand(t, f)
	follow(t, f, does(length(16, 11)))
	did(t, f, api.OK)
	stand(t, f, 0)
	// A claim that was lost, then one over the ring's end.
	follow(t, f, number(88, 0), number(80, 16), turn{cas(80, 16, 24), api.Answer{}}, number(80, 56), does(cas(80, 56, 64)))
	follow(t, f, does(store(72, header(-8, 6))), does(length(72, 8)))
	did(t, f, api.OK, api.OK)
	stand(t, f, 0, 56)
	follow(t, f, number(88, 40), number(80, 56), does(cas(80, 56, 80)), does(store(72, header(8, -1))))
	did(t, f, api.OK, api.OK)
	follow(t, f, does(store(16, header(-16, 7))), does(write(24, row(8))), does(length(16, 16)))
	atEnd(t, f)
	did(t, f, api.OK, api.OK, api.OK)
	stand(t, f, 0, 56, 64)
}

// P10.1: who finds no room tries again as often as there are tries, for all messages together; without one the message is refused, and each that follows is put once.
func TestTries(t *testing.T) {
	f := ring.Fill(small, []api.Message{message(1, 0), message(2, 0), message(3, 0), message(4, 0)}, 3)
	follow(t, f, full()...)
	did(t, f)
	follow(t, f, full()...)
	did(t, f)
	follow(t, f, put(8, 1)...)
	did(t, f, api.OK)
	follow(t, f, full()...)
	did(t, f, api.OK)
	follow(t, f, full()...) // without a try
	did(t, f, api.OK, api.ErrFull)
	follow(t, f, full()...)
	did(t, f, api.OK, api.ErrFull, api.ErrFull)
	follow(t, f, put(24, 4)...)
	did(t, f, api.OK, api.ErrFull, api.ErrFull, api.OK)
	stand(t, f, 8, 24)
	atEnd(t, f)
}

// P10.1: so many tries, none below 0.
func TestHowManyTries(t *testing.T) {
	for _, x := range []struct{ tries, puts int }{{math.MinInt, 1}, {-1, 1}, {0, 1}, {1, 2}, {2, 3}, {64, 65}, {65, 66}, {1000, 1001}} {
		f := ring.Fill(small, []api.Message{message(1, 0), message(2, 8)}, x.tries)
		for range x.puts {
			did(t, f)
			follow(t, f, full()...)
		}
		did(t, f, api.ErrFull)
		follow(t, f, full()...)
		did(t, f, api.ErrFull, api.ErrFull)
		stand(t, f)
		atEnd(t, f)
	}
	f := ring.Fill(small, []api.Message{message(1, 0)}, math.MaxInt)
	for range 1000 {
		follow(t, f, full()...)
	}
	follow(t, f, put(0, 1)...)
	did(t, f, api.OK)
}

// P10.1: what a put refuses ended without an access, and takes no try; a message behind it is put all the same.
func TestRefusedMessages(t *testing.T) {
	long, odd, both := message(1, 9), message(0, 3), message(-1, 9)
	f := ring.Fill(small, []api.Message{long, odd, both}, 5)
	did(t, f, api.ErrLong, api.ErrArg, api.ErrArg)
	stand(t, f)
	atEnd(t, f)
	f = ring.Fill(small, []api.Message{odd, message(2, 0), long, message(math.MinInt32, 0), message(3, 0), odd}, 1)
	did(t, f, api.ErrArg)
	follow(t, f, put(0, 2)...)
	did(t, f, api.ErrArg, api.OK, api.ErrLong, api.ErrArg)
	follow(t, f, full()...)
	follow(t, f, put(24, 3)...)
	did(t, f, api.ErrArg, api.OK, api.ErrLong, api.ErrArg, api.OK, api.ErrArg)
	stand(t, f, 0, 24)
	atEnd(t, f)
}

// P10.1: the greatest length of each ring isn't refused, one byte more is, and so is any length beyond.
func TestLengths(t *testing.T) {
	for size := api.MinRing; size <= api.MaxRing; size *= 2 {
		r := api.Ring{Size: size}
		f := ring.Fill(r, []api.Message{message(1, size/8)}, 0)
		is(t, f, load(size+8))
		did(t, f)
		var l []api.Message
		for _, n := range []int{size/8 + 1, size, api.MaxRing/8 + 1, api.MaxRing - 1, api.MaxRing, api.MaxRing + 1, api.MaxBuffer, 1 << 20} {
			l = append(l, message(1, n))
		}
		f = ring.Fill(r, l, 3)
		did(t, f, slices.Repeat([]api.Errno{api.ErrLong}, len(l))...)
		atEnd(t, f)
	}
}

// P10.1: without messages a filler is at its end.
func TestNoMessages(t *testing.T) {
	for _, r := range append(bad, small) {
		for _, l := range [][]api.Message{nil, {}} {
			f := ring.Fill(r, l, 9)
			did(t, f)
			stand(t, f)
			atEnd(t, f)
		}
	}
}

// P10.1: of more than MaxOps messages the first MaxOps.
func TestManyMessages(t *testing.T) {
	for _, n := range []int{1, 63, 64, 65, 66, 1000} {
		var l []api.Message
		for i := range n {
			l = append(l, message(int32(i+1), 0))
		}
		f := ring.Fill(api.Ring{Size: 1024}, l, 0)
		b := fresh(t, api.Ring{Size: 1024}, 0)
		run(t, b, f)
		want := min(n, api.MaxOps)
		did(t, f, make([]api.Errno, want)...)
		if at := f.Places(); len(at) != want || at[want-1] != int64(8*(want-1)) {
			t.Error(n, at)
		}
		d := ring.Drain(api.Ring{Size: 1024}, 1, math.MaxInt)
		run(t, b, d)
		has(t, d, l[:want]...)
	}
}

// P10.1: on a ring that may not be each message ended, nothing is got, and nothing is fixed.
func TestRefusedRings(t *testing.T) {
	for _, r := range bad {
		f := ring.Fill(r, []api.Message{message(1, 0), message(0, 0), message(2, 9000)}, 4)
		did(t, f, api.ErrArg, api.ErrArg, api.ErrArg)
		stand(t, f)
		atEnd(t, f)
		d := ring.Drain(r, 5, 5)
		has(t, d)
		atEnd(t, d)
		m := ring.Mend(r, 5)
		padded(t, m, 0)
		atEnd(t, m)
	}
}

// P10.1: no machine at all, and one that nothing made.
func TestNil(t *testing.T) {
	for _, f := range []*ring.Filler{nil, {}} {
		did(t, f)
		stand(t, f)
		atEnd(t, f)
	}
	for _, d := range []*ring.Drainer{nil, {}} {
		has(t, d)
		atEnd(t, d)
	}
	for _, m := range []*ring.Mender{nil, {}} {
		padded(t, m, 0)
		atEnd(t, m)
	}
}

// P10.1: so many times, none below 1, and no more than MaxOps.
func TestTimes(t *testing.T) {
	for _, x := range []struct{ times, n int }{
		{math.MinInt, 0}, {-64, 0}, {-1, 0}, {0, 0}, {1, 1}, {2, 2}, {63, 63}, {64, 64}, {65, 64}, {128, 64}, {math.MaxInt, 64},
	} {
		d, m := ring.Drain(small, x.times, 1), ring.Mend(small, x.times)
		for range x.n {
			follow(t, d, nothing()...)
			follow(t, m, number(96, 8), number(80, 8))
		}
		atEnd(t, d)
		atEnd(t, m)
		has(t, d)
		padded(t, m, 0)
	}
}

// P10.1: a drainer of no messages at a time gets nothing, and is at its end.
func TestMostBelow1(t *testing.T) {
	for _, most := range []int{0, -1, math.MinInt} {
		for _, times := range []int{-1, 0, 1, 64, math.MaxInt} {
			d := ring.Drain(small, times, most)
			has(t, d)
			atEnd(t, d)
		}
	}
}

// P10.1: the accesses are those of the gets, one behind the other; what one that isn't at its end has read is told, too.
func TestDrain(t *testing.T) {
	d := ring.Drain(small, 3, 2)
	follow(t, d, number(96, 0), number(16, header(13, 5)), turn{read(24, 5), api.Answer{B: row(5)}})
	has(t, d, message(5, 5))
	follow(t, d, number(32, header(8, -1)), number(40, header(8, 6)))
	has(t, d, message(5, 5), message(6, 0))
	for at := 16; at < 48; at += 8 {
		follow(t, d, does(write(at, make([]byte, 8))))
	}
	follow(t, d, does(store(96, 32)))
	has(t, d, message(5, 5), message(6, 0))
	follow(t, d, nothing()...)
	follow(t, d, number(96, 32), number(48, header(24, 7)), turn{read(56, 8), api.Answer{B: row(8)}})
	has(t, d, message(5, 5), message(6, 0))
	follow(t, d, turn{read(64, 8), api.Answer{B: row(16)[8:]}})
	want := []api.Message{message(5, 5), message(6, 0), message(7, 16)}
	has(t, d, want...)
	follow(t, d, number(72, 0))
	for at := 48; at < 72; at += 8 {
		follow(t, d, does(write(at, make([]byte, 8))))
	}
	follow(t, d, does(store(96, 56)))
	atEnd(t, d)
	has(t, d, want...)
}

// P10.1: most holds for each get of its own.
func TestMost(t *testing.T) {
	for most := 1; most < 6; most++ {
		b := fresh(t, small, 0)
		l := []api.Message{message(1, 0), message(2, 0), message(3, 0), message(4, 0)}
		run(t, b, ring.Fill(small, l, 0))
		d := ring.Drain(small, 2, most)
		run(t, b, d)
		has(t, d, l[:min(4, 2*most)]...)
	}
}

// P10.1: behind a get whose end is odd comes the next one.
func TestOddGet(t *testing.T) {
	d := ring.Drain(small, 3, 9)
	follow(t, d, number(96, 0), number(16, header(8, 5)), number(24, header(7, 5)))
	has(t, d, message(5, 0))
	follow(t, d, does(write(16, make([]byte, 8))), does(store(96, 8)))
	follow(t, d, number(96, 8), number(24, header(7, 5)))
	follow(t, d, number(96, 56), number(72, header(8, 6)), does(write(72, make([]byte, 8))), does(store(96, 64)))
	atEnd(t, d)
	has(t, d, message(5, 0), message(6, 0))
}

// P10.1: the accesses are those of the fixes, one behind the other; what is made padding counts as soon as it is, and as the padding's header tells it.
func TestMend(t *testing.T) {
	m := ring.Mend(small, 4)
	padded(t, m, 0)
	follow(t, m, number(96, 0), number(80, 32), number(16, header(-13, 5)))
	padded(t, m, 0)
	follow(t, m, does(store(16, header(13, -1))))
	padded(t, m, 13)
	follow(t, m, number(96, 16), number(80, 64), number(32, header(16, 5)))
	padded(t, m, 13)
	follow(t, m, number(96, 32), number(80, 64), number(48, 0), turn{half(56), api.Answer{}}, turn{half(64), api.Answer{V: 8}})
	follow(t, m, turn{half(56), api.Answer{}}, turn{half(48), api.Answer{}})
	padded(t, m, 13)
	follow(t, m, does(store(48, header(16, -1))))
	padded(t, m, 29)
	follow(t, m, number(96, 48), number(80, 48))
	padded(t, m, 29)
	atEnd(t, m)
	padded(t, m, 29)
}

// P10.1: a machine goes on though nobody asked it for its next access.
func TestTakeAlone(t *testing.T) {
	f := ring.Fill(small, []api.Message{message(1, 0), message(2, 3)}, 1)
	for _, x := range put(0, 1) {
		f.Take(x.x)
	}
	for _, x := range full() {
		f.Take(x.x)
	}
	is(t, f, load(88))
	did(t, f, api.OK)
	d, m := ring.Drain(small, 2, 1), ring.Mend(small, 2)
	for range 2 {
		d.Take(api.Answer{})
		m.Take(api.Answer{})
	}
	is(t, d, load(96))
	is(t, m, load(96))
}

// P10.1: what is handed in is neither changed nor kept, its spare room neither.
func TestNothingIsKept(t *testing.T) {
	all := row(64)
	l := make([]api.Message, 2, 9)
	l[0], l[1] = api.Message{Type: 5, Data: all[:3]}, api.Message{Type: 6, Data: all[8:16]}
	f := ring.Fill(small, l, 0)
	if !bytes.Equal(all, row(64)) || !reflect.DeepEqual(l[:9], append([]api.Message{message(5, 3), {Type: 6, Data: row(16)[8:]}}, make([]api.Message, 7)...)) {
		t.Fatal(all, l[:9])
	}
	clear(all)
	clear(l)
	b := fresh(t, small, 0)
	run(t, b, f)
	if !bytes.Equal(all, make([]byte, 64)) || !reflect.DeepEqual(l[:9], make([]api.Message, 9)) {
		t.Fatal(all, l[:9])
	}
	d := ring.Drain(small, 1, 9)
	for {
		a, ok := d.Next()
		if !ok {
			break
		}
		x, _ := b.Do(a)
		d.Take(x)
		clear(x.B)
		clear(a.B)
	}
	has(t, d, message(5, 3), api.Message{Type: 6, Data: row(16)[8:]})
}

// P10.1: what is answered is new memory.
func TestAnswersAreNew(t *testing.T) {
	f := ring.Fill(small, []api.Message{message(1, 8), message(2, 0)}, 0)
	b := fresh(t, small, 0)
	for {
		a, ok := f.Next()
		if !ok {
			break
		}
		clear(a.B)
		a, _ = f.Next()
		x, _ := b.Do(a)
		f.Take(x)
		for i := range f.Done() {
			f.Done()[i] = 99
			f.Places()[i] = 99
		}
		_ = append(f.Done(), 77)
		_ = append(f.Places(), 77)
	}
	did(t, f, api.OK, api.OK)
	stand(t, f, 0, 16)
	d := ring.Drain(small, 2, 1)
	for n := 0; ; n++ {
		a, ok := d.Next()
		if !ok {
			break
		}
		x, _ := b.Do(a)
		d.Take(x)
		kept := d.Messages()
		for _, m := range d.Messages() {
			clear(m.Data)
			_ = append(m.Data, 1, 2, 3)
		}
		clear(d.Messages())
		_ = append(d.Messages(), message(9, 9))
		if !same(kept, d.Messages()) {
			t.Fatal(n, kept, d.Messages())
		}
	}
	has(t, d, message(1, 8), message(2, 0))
}

// P10.1: machines don't depend on one another.
func TestMachinesAreTheirOwn(t *testing.T) {
	l := []api.Message{message(1, 0), message(2, 0)}
	one, other := ring.Fill(small, l, 1), ring.Fill(small, l, 1)
	follow(t, one, full()...)
	follow(t, one, full()...)
	did(t, one, api.ErrFull)
	did(t, other)
	follow(t, other, put(0, 1)...)
	follow(t, other, full()...)
	did(t, other, api.OK)
	follow(t, one, put(24, 2)...)
	stand(t, other, 0)
	stand(t, one, 24)
	follow(t, other, put(16, 2)...)
	did(t, other, api.OK, api.OK)
	d, e := ring.Drain(small, 1, 1), ring.Drain(small, 1, 1)
	m, n := ring.Mend(small, 1), ring.Mend(small, 1)
	follow(t, d, number(96, 0), number(16, header(8, 3)))
	follow(t, m, number(96, 0), number(80, 8), number(16, header(-8, 3)), does(store(16, header(8, -1))))
	has(t, e)
	padded(t, n, 0)
	is(t, e, load(96))
	is(t, n, load(96))
}

// chance tells numbers from 0 to below n, always the same ones for the same start.
type chance uint64

func (c *chance) below(n int) int {
	*c = *c*6364136223846793005 + 1442695040888963407
	return int(*c >> 33 % chance(n))
}

// number is any number that is told: often one by which a put has room, or hasn't, and a record is one that may be.
func (c *chance) number(size int) uint64 {
	switch c.below(6) {
	case 0:
		return uint64(8 * c.below(2*size/8))
	case 1:
		return header(int32(8+c.below(size/8)), int32(c.below(4)-1))
	case 2:
		return header(int32(-c.below(size)), int32(c.below(4)))
	case 3:
		return uint64(int64(-8 * c.below(size)))
	}
	return 0
}

// answer is any answer to an access.
func (c *chance) answer(size int) api.Answer {
	return api.Answer{V: c.number(size), Done: c.below(3) > 0, B: row(c.below(12))}
}

// alone lets a machine of a lower layer go on to its end, told anything: the turns.
func alone(m sched.Machine, size int, c *chance) (l []turn) {
	for a, ok := m.Next(); ok; a, ok = m.Next() {
		x := c.answer(size)
		l = append(l, turn{a, x})
		m.Take(x)
	}
	return l
}

// anything are messages of any lengths and types, some of them refused.
func (c *chance) anything(size int) []api.Message {
	var l []api.Message
	for range c.below(6) {
		l = append(l, message(int32(c.below(12)), c.below(size/7)))
	}
	return l
}

// P10.1: whatever a filler is told: the puts one behind the other, each again where it ended with ErrFull, as long as tries are left.
func TestFillToldAnything(t *testing.T) {
	var ends [5]int
	for start := range 4000 {
		c := chance(start)
		r := api.Ring{Base: 8 * c.below(100), Size: api.MinRing << c.below(4)}
		l, tries := c.anything(r.Size), c.below(4)-1
		f := ring.Fill(r, l, tries)
		var done []api.Errno
		var places []int64
		for _, m := range l {
			for {
				p := ringput.New(r, m.Type, m.Data)
				turns := alone(p, r.Size, &c)
				if len(turns) > 0 {
					did(t, f, done...)
					stand(t, f, places...)
				}
				follow(t, f, turns...)
				at, e := p.Result()
				if e == api.ErrFull && tries > 0 {
					tries--
					ends[4]++
					continue
				}
				if e == api.OK {
					places = append(places, at)
				}
				done = append(done, e)
				ends[slices.Index([]api.Errno{api.OK, api.ErrFull, api.ErrArg, api.ErrLong}, e)]++
				break
			}
		}
		did(t, f, done...)
		stand(t, f, places...)
		atEnd(t, f)
	}
	if slices.Min(ends[:]) < 300 {
		t.Error("too few of an end", ends)
	}
}

// P10.1: whatever a drainer, and a mender, are told: the gets, and the fixes, one behind the other.
func TestDrainAndMendToldAnything(t *testing.T) {
	messages, fixed := 0, 0
	for start := range 4000 {
		c := chance(start)
		r := api.Ring{Base: 8 * c.below(100), Size: api.MinRing << c.below(4)}
		times, most := c.below(5), 1+c.below(4)
		d, m := ring.Drain(r, times, most), ring.Mend(r, times)
		var got []api.Message
		n := 0
		for range times {
			has(t, d, got...)
			g := ringget.New(r, most)
			for a, ok := g.Next(); ok; a, ok = g.Next() {
				x := c.answer(r.Size)
				follow(t, d, turn{a, x})
				g.Take(x)
				has(t, d, slices.Concat(got, g.Messages())...)
			}
			got = append(got, g.Messages()...)
			padded(t, m, n)
			f := ringfix.New(r)
			follow(t, m, alone(f, r.Size, &c)...)
			v, e := f.Result()
			if e != api.OK {
				t.Fatal(start, e)
			}
			n += v
		}
		has(t, d, got...)
		padded(t, m, n)
		atEnd(t, d)
		atEnd(t, m)
		messages, fixed = messages+len(got), fixed+n
	}
	if messages < 1000 || fixed < 1000 {
		t.Error("too few", messages, fixed)
	}
}
