package ringfix_test

import (
	"bytes"
	"math"
	"reflect"
	"slices"
	"testing"

	"millstream/api"
	"millstream/membuf"
	"millstream/ringfix"
	"millstream/ringget"
	"millstream/ringput"
)

// small is a ring that stands behind some bytes; its tail is at 80, its head at 96.
var small = api.Ring{Base: 16, Size: 64}

// row is n bytes that are 1, 2, 3, .., none of them 0.
func row(n int) []byte {
	l := make([]byte, n)
	for i := range l {
		l[i] = byte(i%255 + 1)
	}
	return l
}

// header is a record's, by its halves.
func header(length, typ int32) uint64 {
	return uint64(uint32(length)) + uint64(uint32(typ))<<32
}

func load(at, n int) api.Access { return api.Access{Kind: api.Load, At: at, N: n} }

func store(at int, v uint64) api.Access {
	return api.Access{Kind: api.Store, At: at, N: 8, V: v}
}

// padding is the access by which so many bytes are made padding.
func padding(at int, n int32) api.Access { return store(at, header(n, api.PadRecord)) }

// turn is an access that a machine must do next, and what it is told then.
type turn struct {
	a api.Access
	x api.Answer
}

// from are the first two turns: the head, and the tail.
func from(head, tail int64) []turn {
	return []turn{{load(96, 8), api.Answer{V: uint64(head)}}, {load(80, 8), api.Answer{V: uint64(tail)}}}
}

// record is the turn of the record's header at the head.
func record(at int, length, typ int32) turn {
	return turn{load(at, 8), api.Answer{V: header(length, typ)}}
}

// half is the turn of a place that is looked at.
func half(at int, v uint32) turn { return turn{load(at, 4), api.Answer{V: uint64(v)}} }

// empty are the turns of places at which nothing stands, from one down or up to another one.
func empty(at, to int) []turn {
	by := 8
	if to < at {
		by = -8
	}
	var l []turn
	for ; at != to+by; at += by {
		l = append(l, half(at, 0))
	}
	return l
}

// padded is the turn by which so many bytes are made padding.
func padded(at int, n int32) turn { return turn{padding(at, n), api.Answer{}} }

// is asks whether a machine's next access is this one, always the same, and whether it is busy as long as there is one.
func is(t *testing.T, f *ringfix.Fix, want api.Access) {
	t.Helper()
	for range 2 {
		if a, ok := f.Next(); !ok || !reflect.DeepEqual(a, want) {
			t.Fatal(a, ok, "not", want)
		}
		if n, e := f.Result(); n != 0 || e != api.ErrBusy {
			t.Fatal(n, e, "not busy")
		}
	}
}

// ended asks whether a machine is at its end, with that result, and stays there, whatever it is told.
func ended(t *testing.T, f *ringfix.Fix, fixed int, e api.Errno) {
	t.Helper()
	for _, x := range []api.Answer{{}, {Done: true}, {V: header(-16, 1)}, {V: 8, Done: true, B: row(9)}} {
		if a, ok := f.Next(); ok || !reflect.DeepEqual(a, api.Access{}) {
			t.Fatal("an access at the end", a, ok)
		}
		if n, g := f.Result(); n != fixed || g != e {
			t.Fatal("ended with", n, g, "not", fixed, e)
		}
		f.Take(x)
	}
}

// follow holds a new machine's accesses against turns, and how it ends.
func follow(t *testing.T, fixed int, l ...[]turn) {
	t.Helper()
	f := ringfix.New(small)
	for i, x := range slices.Concat(l...) {
		t.Log("turn", i)
		is(t, f, x.a)
		f.Take(x.x)
	}
	ended(t, f, fixed, api.OK)
}

// P9.1: a ring that may not be is at its end at once.
func TestRefused(t *testing.T) {
	for _, r := range []api.Ring{
		{}, {Base: 4, Size: 64}, {Size: 32}, {Size: 96}, {Base: -8, Size: 64}, {Base: api.MaxBuffer, Size: 64},
		{Base: api.MaxBuffer - 64 - 24, Size: 64}, {Size: 16384}, {Size: -64}, {Size: math.MinInt}, {Base: math.MaxInt - 7, Size: 64},
	} {
		ended(t, ringfix.New(r), 0, api.ErrArg)
	}
}

// P9.1: no machine at all, and one that nothing made.
func TestNil(t *testing.T) {
	ended(t, nil, 0, api.ErrArg)
	ended(t, &ringfix.Fix{}, 0, api.ErrArg)
}

// P9.1: each ring's head and tail stand behind its size, and its records from its base on.
func TestWhereTheNumbersStand(t *testing.T) {
	for size := api.MinRing; size <= api.MaxRing; size *= 2 {
		for _, base := range []int{0, 8, 4096, api.MaxBuffer - size - ringput.RingTail} {
			f := ringfix.New(api.Ring{Base: base, Size: size})
			is(t, f, load(base+size+16, 8))
			f.Take(api.Answer{V: uint64(size + 8)})
			is(t, f, load(base+size, 8))
			f.Take(api.Answer{V: uint64(size + 32)})
			is(t, f, load(base+8, 8))
			f.Take(api.Answer{})
			is(t, f, load(base+16, 4))
		}
	}
}

// P9.1: where head and tail are the same, nothing is looked at.
func TestEmpty(t *testing.T) {
	for _, at := range []int64{0, 8, 64, 1 << 40, -8, 5, math.MaxInt64, math.MinInt64} {
		follow(t, 0, from(at, at))
	}
	// Numbers whose places alone are the same aren't.
	for _, at := range []int64{64, -64, 1 << 32, 1 << 40, math.MinInt64} {
		follow(t, 0, from(0, at), []turn{record(16, 8, 1)})
		follow(t, 0, from(at, 0), []turn{record(16, 8, 1)})
	}
}

// P9.1: a record that is whole stands as it is, whatever its length and its type.
func TestWhole(t *testing.T) {
	for _, length := range []int32{1, 7, 8, 16, 56, 64, 65, 72, 8192, math.MaxInt32} {
		for _, typ := range []int32{0, 1, api.PadRecord, math.MinInt32} {
			follow(t, 0, from(8, 48), []turn{record(24, length, typ)})
		}
	}
}

// P9.1: what was begun is made padding: as many bytes as its length tells, whatever its type; the tail counts for nothing there.
func TestBegun(t *testing.T) {
	for _, n := range []int32{1, 7, 8, 9, 13, 16, 55, 56} {
		for _, typ := range []int32{0, 1, 77, api.PadRecord, math.MaxInt32, math.MinInt32} {
			for _, tail := range []int64{16, 64, 0, -8} {
				follow(t, int(n), from(8, tail), []turn{record(24, -n, typ), padded(24, n)})
			}
		}
	}
}

// P9.1: a length of more bytes than there are up to the ring's end may not be: nothing is made of it.
func TestTooLong(t *testing.T) {
	for first := int64(0); first < 64; first += 8 {
		left := int32(64 - first)
		for _, n := range []int32{left + 1, left + 8, 8192, math.MaxInt32} {
			follow(t, 0, from(first, first+8), []turn{record(16+int(first), -n, 1)})
		}
		follow(t, 0, from(first, first+8), []turn{record(16+int(first), math.MinInt32, 1)})
		follow(t, int(left), from(first, first+8), []turn{record(16+int(first), -left, 1), padded(16+int(first), left)})
		follow(t, int(left)-1, from(first, first+8), []turn{record(16+int(first), 1-left, 1), padded(16+int(first), left-1)})
	}
}

// P9.1: where nothing was begun, places are looked at ahead up to what was, then back to the head.
func TestAheadAndBack(t *testing.T) {
	for at := 24; at < 72; at += 8 {
		for _, v := range []uint32{1, 8, 1 << 31, 1 << 24, math.MaxUint32, uint32(math.MaxUint32 - 15)} {
			n := int32(at - 16)
			l := []turn{record(16, 0, 0)}
			if at > 24 {
				l = append(l, empty(24, at-8)...)
			}
			l = append(l, half(at, v))
			l = append(l, empty(at-8, 16)...)
			follow(t, int(n), from(0, 56), l, []turn{padded(16, n)})
		}
	}
}

// P9.1: a length of 0 is none, whatever its type.
func TestTypeAlone(t *testing.T) {
	for _, typ := range []int32{1, api.PadRecord, math.MinInt32, math.MaxInt32} {
		follow(t, 8, from(0, 56), []turn{record(16, 0, typ), half(24, 5), half(16, 0), padded(16, 8)})
		follow(t, 0, from(0, 8), []turn{record(16, 0, typ)})
	}
}

// P9.1: places are looked at below the tail's alone; if they are empty, or none, nothing is fixed.
func TestAllEmpty(t *testing.T) {
	for first := int64(0); first < 64; first += 8 {
		for tail := first + 8; tail < 64; tail += 8 {
			l := []turn{record(16+int(first), 0, 0)}
			if tail > first+8 {
				l = append(l, empty(24+int(first), 8+int(tail))...)
			}
			follow(t, 0, from(first, tail), l)
		}
	}
}

// P9.1: a tail whose place isn't behind the head's stands behind the ring's end: up to there places are looked at.
func TestUpToTheRingsEnd(t *testing.T) {
	for first := int64(0); first < 64; first += 8 {
		for place := int64(0); place <= first; place += 8 {
			l := []turn{record(16+int(first), 0, 0)}
			if first < 56 {
				l = append(l, empty(24+int(first), 72)...)
			}
			follow(t, 0, from(first, 64+place), l)
			if first == 56 {
				continue
			}
			l[len(l)-1] = half(72, 9)
			l = append(l, empty(64, 16+int(first))...)
			n := int32(56 - first)
			follow(t, int(n), from(first, 64+place), append(l, padded(16+int(first), n)))
		}
	}
}

// P9.1: where something was begun on the way back, nothing is fixed, and nothing is looked at ahead of it.
func TestBegunMeanwhile(t *testing.T) {
	for back := 48; back >= 16; back -= 8 {
		for _, v := range []uint32{1, 1 << 31, math.MaxUint32, 16} {
			l := append([]turn{record(16, 0, 0)}, empty(24, 48)...)
			l = append(l, half(56, 3))
			if back < 48 {
				l = append(l, empty(48, back+8)...)
			}
			follow(t, 0, from(64, 64+56), append(l, half(back, v)))
		}
	}
}

// P9.1: numbers go round, and places aren't below 0.
func TestNumbersGoRound(t *testing.T) {
	const most, least = math.MaxInt64, math.MinInt64
	for _, x := range []struct {
		head, tail  int64
		first, last int
	}{
		{most - 15, least + 8, 48, 64}, {most - 39, most - 7, 24, 56}, {-24, 0, 40, 64}, {-16, -8, 48, 56}, {-64, -32, 0, 32},
		{least, least + 24, 0, 24}, {1<<40 + 8, 1<<40 + 48, 8, 48}, {1<<32 + 40, 1<<32 + 72, 40, 64}, {0, least + 16, 0, 16},
		{16, 8, 16, 64}, {most - 31, least, 32, 64},
	} {
		l := []turn{record(16+x.first, 0, 0)}
		for at := x.first + 8; at < x.last; at += 8 {
			l = append(l, half(16+at, 0))
		}
		follow(t, 0, from(x.head, x.tail), l)
	}
}

// P9.1: a head that is no multiple of 8 is taken as it stands; so is the tail.
func TestBetween(t *testing.T) {
	follow(t, 0, from(5, 29), []turn{record(21, 0, 0), half(29, 0), half(37, 0)})
	follow(t, 16, from(5, 22), []turn{record(21, 0, 0), half(29, 0), half(37, 1), half(29, 0), half(21, 0), padded(21, 16)})
	follow(t, 0, from(45, 45+64), []turn{record(61, 0, 0), half(69, 0), half(77, 0)})
	follow(t, 19, from(45, 46), []turn{record(61, -19, 1), padded(61, 19)})
	follow(t, 0, from(45, 46), []turn{record(61, -20, 1)})
}

// P9.1: what answers carry beside a number counts for nothing, and of four bytes the number has four.
func TestWhatIsTold(t *testing.T) {
	odd := func(v uint64) api.Answer { return api.Answer{V: v, Done: true, B: row(9)} }
	follow(t, 16, []turn{
		{load(96, 8), odd(0)},
		{load(80, 8), odd(32)},
		{load(16, 8), odd(0)},
		{load(24, 4), odd(1 << 32)},
		{load(32, 4), odd(1<<32 + 1)},
		{load(24, 4), odd(1 << 63)},
		{load(16, 4), odd(0)},
		{padding(16, 16), odd(77)},
	})
}

// P9.1: a machine goes on though nobody asked it for its next access.
func TestTakeAlone(t *testing.T) {
	f := ringfix.New(small)
	for _, v := range []uint64{8, 56, 0, 0, 9, 0} {
		f.Take(api.Answer{V: v})
	}
	is(t, f, load(24, 4))
	f.Take(api.Answer{})
	is(t, f, padding(24, 16))
}

// P9.1: machines don't depend on one another.
func TestMachinesAreTheirOwn(t *testing.T) {
	one, other := ringfix.New(small), ringfix.New(small)
	for _, v := range []uint64{0, 24, header(-13, 1)} {
		one.Take(api.Answer{V: v})
	}
	is(t, other, load(96, 8))
	other.Take(api.Answer{V: 8})
	other.Take(api.Answer{V: 8})
	ended(t, other, 0, api.OK)
	is(t, one, padding(16, 13))
	one.Take(api.Answer{})
	ended(t, one, 13, api.OK)
}

// model is Fix as the chapter's words stand, in the plainest way: ask does an access, and tells what it told.
type model struct {
	api.Ring
	ask func(a api.Access) api.Answer
}

func (r model) number(behind int) int64 { return int64(r.ask(load(r.Base+r.Size+behind, 8)).V) }

func (r model) half(place int) uint32 { return uint32(r.ask(load(r.Base+place, 4)).V) }

func (r model) place(position int64) int {
	size := int64(r.Size)
	return int((position%size + size) % size)
}

// How a model ends.
const (
	isEmpty = iota
	isWhole
	isTooLong
	isFixed
	isAllEmpty
	isBegunMeanwhile
	isFixedBack
	ends
)

// fix is what a machine must do: how it ends, and how many bytes are made padding.
func (r model) fix() (end, fixed int) {
	head := r.number(16)
	tail := r.number(0)
	if head == tail {
		return isEmpty, 0
	}
	first, last := r.place(head), r.Size
	if r.place(tail) > first {
		last = r.place(tail)
	}
	length := int(int32(r.ask(load(r.Base+first, 8)).V))
	switch {
	case length > 0:
		return isWhole, 0
	case length < -(r.Size - first):
		return isTooLong, 0
	case length < 0:
		r.ask(padding(r.Base+first, int32(-length)))
		return isFixed, -length
	}
	for at := first + 8; at < last; at += 8 {
		if r.half(at) == 0 {
			continue
		}
		for back := at - 8; back >= first; back -= 8 {
			if r.half(back) != 0 {
				return isBegunMeanwhile, 0
			}
		}
		r.ask(padding(r.Base+first, int32(at-first)))
		return isFixedBack, at - first
	}
	return isAllEmpty, 0
}

// chance tells numbers from 0 to below n, always the same ones for the same start.
type chance uint64

func (c *chance) below(n int) int {
	*c = *c*6364136223846793005 + 1442695040888963407
	return int(*c >> 33 % chance(n))
}

// position is any head or tail: mostly a multiple of 8, near 0 or near where numbers go round.
func (c *chance) position(size int, near int64) int64 {
	v := near/8*8 + int64(c.below(2*size))/8*8
	if c.below(8) == 0 {
		v += int64(c.below(8))
	}
	return v
}

// length is any record's: mostly one of what wasn't put to its end.
func (c *chance) length(size int) int32 {
	switch c.below(12) {
	case 0:
		return int32(c.below(2 * size))
	case 1:
		return math.MaxInt32 - int32(c.below(10))
	case 2:
		return math.MinInt32 + int32(c.below(10))
	case 3, 4, 5:
		return int32(-c.below(size + 20))
	}
	return 0
}

// modelled is what a machine must do when it is told anything, and how it ends.
func modelled(r api.Ring, c *chance) (l []turn, end, fixed int) {
	near := []int64{0, 0, 1 << 20, -64, math.MaxInt64, math.MinInt64, math.MaxInt32, -1 << 32}[c.below(8)]
	often := 1 + c.below(40)
	end, fixed = model{r, func(a api.Access) api.Answer {
		x := api.Answer{Done: c.below(2) == 0, B: row(c.below(10))}
		switch {
		case len(l) < 2:
			x.V = uint64(c.position(r.Size, near))
		case len(l) == 2:
			x.V = header(c.length(r.Size), int32(c.below(1<<31))-1<<30)
		case c.below(often) == 0:
			x.V = uint64([]uint32{1, 8, 1 << 31, math.MaxUint32, 1 << 16, 1 << 8}[c.below(6)])
		}
		l = append(l, turn{a, x})
		return x
	}}.fix()
	return l, end, fixed
}

// P9.1: whatever it is told: many machines against the model.
func TestAgainstModel(t *testing.T) {
	var did [ends]int
	for start := range 20000 {
		c := chance(start)
		r := api.Ring{Base: 8 * c.below(100), Size: api.MinRing << c.below(5)}
		l, end, fixed := modelled(r, &c)
		f := ringfix.New(r)
		for i, x := range l {
			if a, ok := f.Next(); !ok || !reflect.DeepEqual(a, x.a) {
				t.Fatal(start, i, a, ok, "not", x.a)
			}
			if n, e := f.Result(); n != 0 || e != api.ErrBusy {
				t.Fatal(start, i, n, e)
			}
			f.Take(x.x)
		}
		ended(t, f, fixed, api.OK)
		did[end]++
	}
	if slices.Min(did[:]) < 100 {
		t.Error("too few of an end", did)
	}
}

// fresh is a buffer for a ring, whose bytes are 0, to its last byte, and whose numbers are all as they are told.
func fresh(t *testing.T, r api.Ring, all int64) *membuf.Buffer {
	t.Helper()
	b, e := membuf.New(r.Base + r.Size + ringput.RingTail)
	if e != api.OK {
		t.Fatal(e)
	}
	for i := range 3 {
		b.Do(store(r.Base+r.Size+8*i, uint64(all)))
	}
	return b
}

// machine is a put, a get, or a fix.
type machine interface {
	Next() (api.Access, bool)
	Take(x api.Answer)
}

// steps does so many of a machine's accesses at most, none of which is refused: how many.
func steps(t *testing.T, b *membuf.Buffer, m machine, most int) int {
	t.Helper()
	for i := range most {
		a, ok := m.Next()
		if !ok {
			return i
		}
		x, e := b.Do(a)
		if e != api.OK {
			t.Fatal(a, e)
		}
		m.Take(x)
	}
	return most
}

// run does all of a machine's accesses.
func run(t *testing.T, b *membuf.Buffer, m machine) {
	t.Helper()
	if most := 8 + 2*api.MaxRing; steps(t, b, m, most) == most {
		t.Fatal("no end")
	}
}

// fix fixes a ring: how many bytes.
func fix(t *testing.T, b *membuf.Buffer, r api.Ring) int {
	t.Helper()
	f := ringfix.New(r)
	run(t, b, f)
	n, e := f.Result()
	if e != api.OK {
		t.Fatal(n, e)
	}
	return n
}

// get takes all messages out of a ring that stand there whole: those, and by how much the head was moved on.
func get(t *testing.T, b *membuf.Buffer, r api.Ring) (l []api.Message, moved int64) {
	t.Helper()
	for {
		g := ringget.New(r, 3)
		run(t, b, g)
		n, e := g.Result()
		if e != api.OK {
			t.Fatal(n, e)
		}
		if n == 0 {
			return l, moved
		}
		l, moved = append(l, g.Messages()...), moved+n
	}
}

// message is one whose bytes are told by their number.
func message(typ int32, n int) api.Message { return api.Message{Type: typ, Data: row(n)} }

// same asks whether messages are the same; a list that is empty may be nil.
func same(l, m []api.Message) bool {
	return slices.EqualFunc(l, m, func(x, y api.Message) bool { return x.Type == y.Type && bytes.Equal(x.Data, y.Data) })
}

// number is one of a ring's numbers.
func number(t *testing.T, b *membuf.Buffer, r api.Ring, behind int) int64 {
	t.Helper()
	x, e := b.Do(load(r.Base+r.Size+behind, 8))
	if e != api.OK {
		t.Fatal(e)
	}
	return int64(x.V)
}

// P9.2: the chapter's example.
func TestExample(t *testing.T) {
	r := api.Ring{Size: 64}
	b := fresh(t, r, 0)
	if n := fix(t, b, r); n != 0 || !bytes.Equal(b.Bytes(), make([]byte, 96)) {
		t.Error(n, b.Bytes())
	}
}

// P9.2: a put that stopped at any of its steps, with something behind it and without: one fix lets the ring go on; what was put whole comes out.
func TestStopped(t *testing.T) {
	r := api.Ring{Base: 8, Size: 256}
	for _, behind := range []bool{false, true} {
		for stop := range 12 {
			b := fresh(t, r, 0)
			run(t, b, ringput.New(r, 1, row(5)))
			p := ringput.New(r, 2, row(21))
			did := steps(t, b, p, stop)
			want := []api.Message{message(1, 5)}
			if did == 8 { // its end
				want = append(want, message(2, 21))
			}
			if n := fix(t, b, r); n != 0 {
				t.Fatal(stop, n, "fixed of what is whole")
			}
			if l, _ := get(t, b, r); !same(l, want) {
				t.Fatal(stop, l, "not", want)
			}
			if behind {
				run(t, b, ringput.New(r, 3, row(9)))
			}
			fixed, moved := 0, int64(0)
			switch {
			case did == 3 && behind: // claimed: it is told by what stands behind it
				fixed, moved = 32, 32+24
			case did > 3 && did < 8: // begun: it tells its length, which is no multiple of 8
				fixed, moved = 29, 32
				if behind {
					moved += 24
				}
			case behind:
				moved = 24
			}
			if n := fix(t, b, r); n != fixed {
				t.Fatal(stop, behind, n, "fixed, not", fixed)
			}
			l, v := get(t, b, r)
			want = nil
			if behind {
				want = []api.Message{message(3, 9)}
			}
			if !same(l, want) || v != moved {
				t.Fatal(stop, behind, l, v, "not", want, moved)
			}
			if n := fix(t, b, r); n != 0 {
				t.Fatal(stop, behind, n, "fixed once more")
			}
		}
	}
}

// P9.2: where it stopped ahead of the padding that leads over the ring's end, nothing stands behind it up to there; from the padding on a fix lets it go on.
func TestStoppedAtTheRingsEnd(t *testing.T) {
	r := api.Ring{Base: 8, Size: 64}
	for stop := 3; stop < 7; stop++ {
		b := fresh(t, r, 48)
		run(t, b, ringput.New(r, 1, nil))
		if l, v := get(t, b, r); len(l) != 1 || v != 8 {
			t.Fatal(l, v)
		}
		// It stands at 64, behind 8 bytes of padding.
		steps(t, b, ringput.New(r, 2, row(8)), stop)
		run(t, b, ringput.New(r, 3, row(3)))
		l, v := get(t, b, r)
		n := fix(t, b, r)
		if stop == 3 {
			if len(l) != 0 || v != 0 || n != 0 {
				t.Fatal(l, v, n)
			}
			continue
		}
		if len(l) != 0 || v != 8 || n != 16 {
			t.Fatal(stop, l, v, n)
		}
		if l, v := get(t, b, r); !same(l, []api.Message{message(3, 3)}) || v != 32 {
			t.Fatal(stop, l, v)
		}
	}
}

// P9.2: who begins while places are looked at keeps what is his.
func TestGoesOnMeanwhile(t *testing.T) {
	r := api.Ring{Size: 128}
	for ahead := range 10 {
		for more := range 10 {
			b := fresh(t, r, 0)
			p := ringput.New(r, 1, row(16))
			steps(t, b, p, 3)
			run(t, b, ringput.New(r, 2, row(8)))
			f := ringfix.New(r)
			did := steps(t, b, f, ahead)
			steps(t, b, p, more)
			run(t, b, f)
			n, e := f.Result()
			if e != api.OK {
				t.Fatal(e)
			}
			// Three numbers, three places ahead, three back, then the padding: what is begun ahead of the last look back is seen.
			// What is begun, but not whole, ahead of the look at its header tells its length.
			want := 0
			if more == 0 || did > 8 || did < 3 && more < 4 {
				want = 24
			}
			if n != want {
				t.Fatal(ahead, more, n, "not", want)
			}
			if want == 0 {
				run(t, b, p)
				if l, v := get(t, b, r); !same(l, []api.Message{message(1, 16), message(2, 8)}) || v != 40 {
					t.Fatal(ahead, more, l, v)
				}
			}
		}
	}
}

// putter is a put, its message, and how many steps it goes on at most.
type putter struct {
	p    *ringput.Put
	m    api.Message
	left int
}

// crowd lets many put at once, with gets in between, till each is at its end or stops for ever: those, and what was taken meanwhile.
func crowd(t *testing.T, b *membuf.Buffer, r api.Ring, c *chance) (l []*putter, got []api.Message) {
	t.Helper()
	stops := 1 + c.below(6)
	for i := range 40 {
		x := &putter{m: message(int32(i+1), c.below(r.Size/8+1)), left: 1 << 20}
		x.p = ringput.New(r, x.m.Type, x.m.Data)
		if c.below(stops) == 0 {
			x.left = c.below(20)
		}
		l = append(l, x)
	}
	for n, from := 0, 0; from < len(l); n++ {
		if n > 1<<20 {
			t.Fatal("no end")
		}
		x := l[from:min(from+4, len(l))][c.below(min(4, len(l)-from))]
		did := steps(t, b, x.p, min(x.left, 1))
		x.left -= did
		if did == 0 {
			from++
		}
		if c.below(20) == 0 {
			m, _ := get(t, b, r)
			got = append(got, m...)
		}
	}
	for _, x := range l {
		steps(t, b, x.p, x.left)
		x.left = 0
	}
	return l, got
}

// lets asks whether a fix let the ring go on by room of those that stopped alone.
func lets(t *testing.T, l []*putter, head int64, fixed int) {
	t.Helper()
	stopped := 0
	for _, x := range l {
		at, ok := x.p.At()
		if !ok || at-head < 0 || at-head >= int64(fixed) {
			continue
		}
		if _, e := x.p.Result(); e != api.ErrBusy {
			t.Fatal("fixed what is whole", x.m, at, head, fixed)
		}
		stopped++
	}
	if stopped == 0 {
		t.Fatal("fixed nobody's room", head, fixed)
	}
}

// stands asks whether a ring that no fix lets go on has nothing begun from its head on, up to the tail or to its end.
func stands(t *testing.T, b *membuf.Buffer, r api.Ring, head int64) {
	t.Helper()
	size, n := int64(r.Size), number(t, b, r, 0)-head
	place := (head%size + size) % size
	if n < 1 || n > size {
		t.Fatal("claimed", n)
	}
	room := b.Bytes()[r.Base:][place:min(place+n, size)]
	if !bytes.Equal(room, make([]byte, len(room))) {
		t.Fatal("not fixed", head, room)
	}
}

// drain takes what is there, and fixes the ring where it stands still, till it is empty or no fix lets it go on: what was taken, how many fixes did something, and whether it is empty.
func drain(t *testing.T, b *membuf.Buffer, r api.Ring, l []*putter) (got []api.Message, fixes int, all bool) {
	t.Helper()
	for {
		m, _ := get(t, b, r)
		got = append(got, m...)
		head := number(t, b, r, 16)
		n := fix(t, b, r)
		if head == number(t, b, r, 0) {
			if n != 0 {
				t.Fatal("fixed", n, "of nothing")
			}
			return got, fixes, true
		}
		if n == 0 {
			stands(t, b, r, head)
			return got, fixes, false
		}
		lets(t, l, head, n)
		fixes++
		if m, v := get(t, b, r); v < int64(n) {
			t.Fatal("the ring didn't go on", head, n, v)
		} else {
			got = append(got, m...)
		}
	}
}

// whole are the messages that were put whole and stand ahead of a position, in order.
func whole(l []*putter, to int64) []api.Message {
	var done []*putter
	for _, x := range l {
		if at, e := x.p.Result(); e == api.OK && at-to < 0 {
			done = append(done, x)
		}
	}
	slices.SortFunc(done, func(x, y *putter) int {
		a, _ := x.p.At()
		b, _ := y.p.At()
		if a-b < 0 { // positions go round
			return -1
		}
		return 1
	})
	var m []api.Message
	for _, x := range done {
		m = append(m, x.m)
	}
	return m
}

// P9.2: many put at once, some of them stop for ever: fixes let the ring go on, and what was put whole comes out, in order.
func TestManyStop(t *testing.T) {
	fixed, through, stuck := 0, 0, 0
	for start := range 2000 {
		c := chance(start)
		r := api.Ring{Base: 8 * c.below(4), Size: api.MinRing << c.below(4)}
		at := []int64{0, -64, math.MaxInt64 - 255, math.MinInt64 + 512}[c.below(4)] / 8 * 8
		b := fresh(t, r, at)
		l, got := crowd(t, b, r, &c)
		more, fixes, all := drain(t, b, r, l)
		head := number(t, b, r, 16)
		if want := whole(l, head); !same(append(got, more...), want) {
			t.Fatal(start, got, more, "not", want)
		}
		fixed += fixes
		if !all {
			stuck++
			continue
		}
		through++
		if room := b.Bytes()[r.Base:][:r.Size]; !bytes.Equal(room, make([]byte, r.Size)) {
			t.Fatal(start, "left", room)
		}
		// The ring is as new, from its head on.
		run(t, b, ringput.New(r, 99, row(3)))
		if m, _ := get(t, b, r); !same(m, []api.Message{message(99, 3)}) {
			t.Fatal(start, m)
		}
	}
	if fixed < 1000 || through < 1000 || stuck < 50 {
		t.Error("too few", fixed, through, stuck)
	}
}
