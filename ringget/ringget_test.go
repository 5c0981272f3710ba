package ringget_test

import (
	"bytes"
	"math"
	"reflect"
	"slices"
	"testing"

	"millstream/api"
	"millstream/membuf"
	"millstream/ringget"
	"millstream/ringput"
)

// small is a ring that stands behind some bytes; its head is at 96.
var small = api.Ring{Base: 16, Size: 64}

// row is n bytes that are 1, 2, 3, .., none of them 0.
func row(n int) []byte {
	l := make([]byte, n)
	for i := range l {
		l[i] = byte(i%255 + 1)
	}
	return l
}

// header is a record's, by its halves.
func header(length, typ int32) uint64 {
	return uint64(uint32(length)) + uint64(uint32(typ))<<32
}

func load(at int) api.Access { return api.Access{Kind: api.Load, At: at, N: 8} }

func store(at int, v int64) api.Access {
	return api.Access{Kind: api.Store, At: at, N: 8, V: uint64(v)}
}

func read(at, n int) api.Access { return api.Access{Kind: api.Read, At: at, N: n} }

func zero(at int) api.Access {
	return api.Access{Kind: api.Write, At: at, N: 8, B: make([]byte, 8)}
}

// turn is an access that a machine must do next, and what it is told then.
type turn struct {
	a api.Access
	x api.Answer
}

// from is the first turn: the head.
func from(head int64) turn { return turn{load(96), api.Answer{V: uint64(head)}} }

// record is the turn of a record's header.
func record(at int, length, typ int32) turn {
	return turn{load(at), api.Answer{V: header(length, typ)}}
}

// part is the turn of some of a message's bytes.
func part(at int, b []byte) turn { return turn{read(at, len(b)), api.Answer{B: b}} }

// drained are the turns by which bytes are handed back.
func drained(at, n int, head int64) []turn {
	var l []turn
	for i := 0; i < n; i += 8 {
		l = append(l, turn{zero(at + i), api.Answer{}})
	}
	return append(l, turn{store(96, head), api.Answer{}})
}

// message is one whose bytes are told by their number.
func message(typ int32, n int) api.Message { return api.Message{Type: typ, Data: row(n)} }

// same asks whether messages are the same; a list that is empty may be nil.
func same(l, m []api.Message) bool {
	return slices.EqualFunc(l, m, func(x, y api.Message) bool { return x.Type == y.Type && bytes.Equal(x.Data, y.Data) })
}

// plain is an access whose list is nil where it is empty: both mean the same.
func plain(a api.Access) api.Access {
	if len(a.B) == 0 {
		a.B = nil
	}
	return a
}

// is asks whether a machine's next access is this one, always the same, and whether it is busy as long as there is one.
func is(t *testing.T, g *ringget.Get, want api.Access) {
	t.Helper()
	for range 2 {
		if a, ok := g.Next(); !ok || !reflect.DeepEqual(plain(a), plain(want)) {
			t.Fatal(a, ok, "not", want)
		}
		if v, e := g.Result(); v != 0 || e != api.ErrBusy {
			t.Fatal(v, e, "not busy")
		}
	}
}

// has asks which messages a machine has read.
func has(t *testing.T, g *ringget.Get, want ...api.Message) {
	t.Helper()
	if l := g.Messages(); !same(l, want) {
		t.Fatal("messages", l, "not", want)
	}
}

// ended asks whether a machine is at its end, with that result and these messages, and stays there, whatever it is told.
func ended(t *testing.T, g *ringget.Get, moved int64, e api.Errno, want ...api.Message) {
	t.Helper()
	for _, x := range []api.Answer{{}, {Done: true}, {V: header(16, 1)}, {V: 8, Done: true, B: row(9)}} {
		if a, ok := g.Next(); ok || !reflect.DeepEqual(a, api.Access{}) {
			t.Fatal("an access at the end", a, ok)
		}
		if v, f := g.Result(); v != moved || f != e {
			t.Fatal("ended with", v, f, "not", moved, e)
		}
		has(t, g, want...)
		g.Take(x)
	}
}

// follow holds a machine's accesses against turns.
func follow(t *testing.T, g *ringget.Get, l ...turn) {
	t.Helper()
	for i, x := range l {
		t.Log("turn", i)
		is(t, g, x.a)
		g.Take(x.x)
	}
}

// P8.1: what may not be is at its end at once.
func TestRefused(t *testing.T) {
	bad := []api.Ring{
		{}, {Base: 4, Size: 64}, {Size: 32}, {Size: 96}, {Base: -8, Size: 64}, {Base: api.MaxBuffer, Size: 64},
		{Base: api.MaxBuffer - 64 - 24, Size: 64}, {Size: 16384}, {Size: -64}, {Size: math.MinInt}, {Base: math.MaxInt - 7, Size: 64},
	}
	for _, r := range bad {
		for _, most := range []int{1, 2, 100, math.MaxInt, 0, -1, math.MinInt} {
			ended(t, ringget.New(r, most), 0, api.ErrArg)
		}
	}
	for _, most := range []int{0, -1, -100, math.MinInt} {
		ended(t, ringget.New(small, most), 0, api.ErrArg)
	}
	for _, most := range []int{1, 2, 100, math.MaxInt} {
		is(t, ringget.New(small, most), load(96))
	}
}

// P8.1: each ring's head stands behind its size, its tail and the head's copy.
func TestWhereTheHeadStands(t *testing.T) {
	for size := api.MinRing; size <= api.MaxRing; size *= 2 {
		for _, base := range []int{0, 8, 4096, api.MaxBuffer - size - ringput.RingTail} {
			g := ringget.New(api.Ring{Base: base, Size: size}, 1)
			is(t, g, load(base+size+16))
			g.Take(api.Answer{V: uint64(size + 8)})
			is(t, g, load(base+8))
		}
	}
}

// P8.1: no machine at all.
func TestNil(t *testing.T) {
	ended(t, nil, 0, api.ErrArg)
}

// P8.1: where nothing stands, or nothing whole, nothing is taken, and nothing is written.
func TestNothing(t *testing.T) {
	for _, length := range []int32{0, -1, -8, -16, -64, math.MinInt32} {
		for _, typ := range []int32{0, 1, api.PadRecord, math.MaxInt32} {
			g := ringget.New(small, 3)
			follow(t, g, from(0), record(16, length, typ))
			ended(t, g, 0, api.OK)
		}
	}
}

// P8.1: a message: its header, its bytes, zeros, the head; it is told as soon as it was read whole.
func TestOneMessage(t *testing.T) {
	g := ringget.New(small, 3)
	has(t, g)
	follow(t, g, from(0), record(16, 16, 7))
	has(t, g)
	follow(t, g, part(24, row(8)))
	has(t, g, message(7, 8))
	follow(t, g, record(32, 0, 0))
	for _, x := range drained(16, 16, 16) {
		has(t, g, message(7, 8))
		follow(t, g, x)
	}
	ended(t, g, 16, api.OK, message(7, 8))
}

// P8.1: bytes are read in chunks, those that fill a record up aren't read, but made 0, too.
func TestChunks(t *testing.T) {
	g := ringget.New(small, 1)
	follow(t, g, from(8), record(24, 8+21, 9), part(32, row(8)))
	has(t, g)
	follow(t, g, part(40, row(16)[8:]))
	has(t, g)
	follow(t, g, part(48, row(21)[16:]))
	has(t, g, message(9, 21))
	follow(t, g, drained(24, 32, 40)...)
	ended(t, g, 32, api.OK, message(9, 21))
}

// P8.1: of each length that may be as many bytes are read as there are.
func TestLengths(t *testing.T) {
	for n := range 57 {
		g := ringget.New(small, 1)
		follow(t, g, from(0), record(16, int32(8+n), 1))
		for i := 0; i < n; i += 8 {
			has(t, g)
			follow(t, g, part(24+i, row(n)[i:min(i+8, n)]))
		}
		size := 8 + (n+7)/8*8
		follow(t, g, drained(16, size, int64(size))...)
		ended(t, g, int64(size), api.OK, message(1, n))
	}
}

// P8.1: a message of no bytes is one, too, and has no chunk.
func TestNoBytes(t *testing.T) {
	g := ringget.New(small, 2)
	follow(t, g, from(0), record(16, 8, 1))
	has(t, g, message(1, 0))
	follow(t, g, record(24, 8, 2))
	has(t, g, message(1, 0), message(2, 0))
	follow(t, g, drained(16, 16, 16)...)
	ended(t, g, 16, api.OK, message(1, 0), message(2, 0))
}

// P8.1: the type alone tells padding, and just one tells it: others are handed on as they stand.
func TestTypes(t *testing.T) {
	for _, typ := range []int32{1, 0, -2, math.MaxInt32, math.MinInt32, 255, 65535, 1 << 24} {
		g := ringget.New(small, 1)
		follow(t, g, from(0), record(16, 9, typ), part(24, row(1)))
		follow(t, g, drained(16, 16, 16)...)
		ended(t, g, 16, api.OK, message(typ, 1))
	}
}

// P8.1: padding is gone over unread, doesn't count as a message, and is made 0, too.
func TestPadding(t *testing.T) {
	g := ringget.New(small, 2)
	follow(t, g,
		from(0),
		record(16, 24, api.PadRecord),
		record(40, 9, 3), part(48, row(1)),
		record(56, 13, api.PadRecord), // a length that is no multiple of 8
		record(72, 8, 4),
	)
	follow(t, g, drained(16, 64, 64)...)
	ended(t, g, 64, api.OK, message(3, 1), message(4, 0))
}

// P8.1: padding alone is handed back, as well.
func TestPaddingAlone(t *testing.T) {
	g := ringget.New(small, 1)
	follow(t, g, from(48), record(64, 8, api.PadRecord), record(72, 0, 0))
	follow(t, g, drained(64, 8, 56)...)
	ended(t, g, 8, api.OK)
}

// P8.1: no more messages are taken than most, and nothing behind them is looked at, padding neither.
func TestMost(t *testing.T) {
	for most := 1; most < 12; most++ {
		g := ringget.New(small, most)
		follow(t, g, from(0))
		var want []api.Message
		for i := range min(most, 8) {
			follow(t, g, record(16+8*i, 8, int32(i+1)))
			want = append(want, message(int32(i+1), 0))
		}
		n := 8 * len(want)
		follow(t, g, drained(16, n, int64(n))...)
		ended(t, g, int64(n), api.OK, want...)
	}
}

// P8.1: nothing is taken over the ring's end: what stands at its beginning comes next.
func TestRingsEnd(t *testing.T) {
	for _, typ := range []int32{1, api.PadRecord} {
		g := ringget.New(small, 9)
		follow(t, g, from(3*64+56), record(72, 8, typ))
		follow(t, g, drained(72, 8, 4*64)...)
		if typ == api.PadRecord {
			ended(t, g, 8, api.OK)
		} else {
			ended(t, g, 8, api.OK, message(1, 0))
		}
	}
	g := ringget.New(small, 9)
	follow(t, g, from(4*64), record(16, 0, 0))
	ended(t, g, 0, api.OK)
}

// P8.1: a length below a header's, or a size beyond the ring's end, is odd, padding's, too; where nothing stands ahead of it, nothing is written.
func TestOdd(t *testing.T) {
	for _, typ := range []int32{1, api.PadRecord, 0} {
		for _, length := range []int32{1, 2, 7, 65, 66, 72, 128, 8192, math.MaxInt32 - 7, math.MaxInt32 - 6, math.MaxInt32} {
			g := ringget.New(small, 3)
			follow(t, g, from(64), record(16, length, typ))
			ended(t, g, 0, api.ErrOdd)
		}
		for _, length := range []int32{1, 7, 17, 24, 64, math.MaxInt32} {
			g := ringget.New(small, 3)
			follow(t, g, from(48), record(64, length, typ))
			ended(t, g, 0, api.ErrOdd)
		}
	}
	// A size up to the ring's end isn't.
	for _, length := range []int32{57, 63, 64} {
		g := ringget.New(small, 3)
		follow(t, g, from(0), record(16, length, api.PadRecord))
		follow(t, g, drained(16, 64, 64)...)
		ended(t, g, 64, api.OK)
	}
}

// P8.1: what stands ahead of what is odd is handed on and handed back; the end is odd all the same.
func TestOddBehindOthers(t *testing.T) {
	for _, length := range []int32{1, 7, 33, 40, math.MaxInt32} {
		for _, typ := range []int32{1, api.PadRecord} {
			g := ringget.New(small, 5)
			follow(t, g, from(8), record(24, 9, 2), part(32, row(1)), record(40, 8, api.PadRecord), record(48, length, typ))
			has(t, g, message(2, 1))
			follow(t, g, drained(24, 24, 32)...)
			ended(t, g, 0, api.ErrOdd, message(2, 1))
		}
	}
	g := ringget.New(small, 5)
	follow(t, g, from(0), record(16, 8, api.PadRecord), record(24, 57, 1))
	follow(t, g, drained(16, 8, 8)...)
	ended(t, g, 0, api.ErrOdd)
}

// P8.1: numbers go round, and places aren't below 0.
func TestNumbersGoRound(t *testing.T) {
	const most, least = math.MaxInt64, math.MinInt64
	for _, x := range []struct {
		head  int64
		place int
		then  int64
	}{
		{most - 7, 56, least}, {-8, 56, 0}, {-64, 0, -56}, {least, 0, least + 8}, {least + 24, 24, least + 32}, {-16, 48, -8},
		{1 << 40, 0, 1<<40 + 8}, {1<<32 + 40, 40, 1<<32 + 48}, {-1<<33 - 24, 40, -1<<33 - 16},
	} {
		g := ringget.New(small, 1)
		follow(t, g, from(x.head), record(16+x.place, 8, 1))
		follow(t, g, drained(16+x.place, 8, x.then)...)
		ended(t, g, 8, api.OK, message(1, 0))
	}
}

// P8.1: a head that is no multiple of 8 is taken as it stands, up to the ring's end.
func TestHeadBetween(t *testing.T) {
	g := ringget.New(small, 9)
	follow(t, g, from(45), record(61, 10, 1), part(69, row(2)), record(77, 0, 1))
	follow(t, g, drained(61, 16, 61)...)
	ended(t, g, 16, api.OK, message(1, 2))
	for _, length := range []int32{1, 8} {
		g := ringget.New(small, 9)
		follow(t, g, from(63), record(79, length, 1))
		ended(t, g, 0, api.ErrOdd)
	}
}

// P8.1: all bytes that are told count as read, as many as they are; what other answers carry beside counts for nothing.
func TestWhatIsTold(t *testing.T) {
	g := ringget.New(small, 2)
	odd := api.Answer{V: header(24, 5), Done: true, B: row(5)}
	follow(t, g,
		turn{load(96), api.Answer{V: 8, Done: true, B: row(9)}},
		turn{load(24), odd},
		turn{read(32, 8), api.Answer{V: 99, Done: true, B: row(3)}},
		turn{read(40, 8), api.Answer{B: row(20)}},
		turn{load(48), odd},
		turn{read(56, 8), api.Answer{V: 7}},
		turn{read(64, 8), api.Answer{}},
	)
	want := []api.Message{{Type: 5, Data: append(row(3), row(20)...)}, {Type: 5}}
	for _, x := range drained(24, 48, 56) {
		has(t, g, want...)
		follow(t, g, turn{x.a, odd})
	}
	ended(t, g, 48, api.OK, want...)
}

// P8.1: a machine goes on though nobody asked it for its next access.
func TestTakeAlone(t *testing.T) {
	g := ringget.New(small, 1)
	for _, x := range []api.Answer{{V: 16}, {V: header(16, 2)}, {B: row(8)}, {}} {
		g.Take(x)
	}
	is(t, g, zero(40))
	has(t, g, message(2, 8))
}

// P8.1: what is told isn't kept, its spare room neither; what is answered is new memory.
func TestMemory(t *testing.T) {
	all := row(40)
	g := ringget.New(small, 2)
	follow(t, g, from(0), record(16, 20, 2))
	g.Take(api.Answer{B: all[:8]})
	g.Take(api.Answer{B: all[8:12]})
	if !bytes.Equal(all, row(40)) {
		t.Error(all)
	}
	clear(all)
	for range 3 {
		has(t, g, message(2, 12))
		l := g.Messages()
		clear(append(l[0].Data, 1, 2, 3))
		clear(l[0].Data)
		l[0].Type = 99
		_ = append(l[:0], message(7, 3))
	}
	follow(t, g, record(40, 16, 3), part(48, row(8)))
	l := g.Messages()
	_ = append(l[0].Data, row(100)...)
	has(t, g, message(2, 12), message(3, 8))
	for _, x := range drained(16, 40, 40) {
		a, _ := g.Next()
		for i := range a.B {
			a.B[i] = 9
		}
		follow(t, g, x)
	}
	if !same(l, []api.Message{message(2, 12), message(3, 8)}) {
		t.Error("what was answered was changed", l)
	}
}

// P8.1: machines don't depend on one another.
func TestMachinesAreTheirOwn(t *testing.T) {
	one, other := ringget.New(small, 2), ringget.New(small, 2)
	follow(t, one, from(0), record(16, 16, 2), part(24, row(8)))
	is(t, other, load(96))
	has(t, other)
	follow(t, other, from(8), record(24, 0, 0))
	ended(t, other, 0, api.OK)
	follow(t, one, record(32, 0, 0))
	follow(t, one, drained(16, 16, 16)...)
	ended(t, one, 16, api.OK, message(2, 8))
}

// model is Get as the chapter's words stand, in the plainest way: ask does an access, and tells what it told; on is told each message that was read whole.
type model struct {
	api.Ring
	ask func(a api.Access) api.Answer
	on  func(m api.Message)
}

// get is what a machine must do: by how much it moves the head on, and whether its end is odd.
func (r model) get(most int) (done int, odd bool) {
	behind := r.Base + r.Size + 16
	head := int64(r.ask(load(behind)).V)
	first := int(head % int64(r.Size))
	if first < 0 {
		first += r.Size
	}
	for taken := 0; taken < most && first+done < r.Size; {
		at := r.Base + first + done
		v := r.ask(load(at)).V
		length, typ := int(int32(v)), int32(v>>32)
		if length < 1 {
			break
		}
		size := (length + 7) / 8 * 8
		if length < 8 || size > r.Size-first-done {
			odd = true
			break
		}
		if typ != -1 {
			var b []byte
			for i := 8; i < length; i += 8 {
				b = append(b, r.ask(read(at+i, min(8, length-i))).B...)
			}
			r.on(api.Message{Type: typ, Data: b})
			taken++
		}
		done += size
	}
	if done == 0 {
		return done, odd
	}
	for i := 0; i < done; i += 8 {
		r.ask(zero(r.Base + first + i))
	}
	r.ask(store(behind, head+int64(done)))
	return done, odd
}

// chance tells numbers from 0 to below n, always the same ones for the same start.
type chance uint64

func (c *chance) below(n int) int {
	*c = *c*6364136223846793005 + 1442695040888963407
	return int(*c >> 33 % chance(n))
}

// position is any head: mostly a multiple of 8, near 0 or near where numbers go round.
func (c *chance) position(size int) int64 {
	near := []int64{0, 0, 1 << 20, -64, math.MaxInt64, math.MinInt64, math.MaxInt32, -1 << 32}
	v := near[c.below(len(near))]/8*8 + int64(c.below(4*size))/8*8
	if c.below(8) == 0 {
		v += int64(c.below(8))
	}
	return v
}

// length is any record's: mostly one that may be.
func (c *chance) length(size int) int32 {
	switch c.below(24) {
	case 0:
		return int32(-c.below(2 * size))
	case 1:
		return int32(c.below(8))
	case 2:
		return int32(c.below(2 * size))
	case 3:
		return math.MaxInt32 - int32(c.below(10))
	case 4:
		return math.MinInt32 + int32(c.below(10))
	}
	return int32(8 + c.below(size/8))
}

// answer is any answer to an access.
func (c *chance) answer(size int) api.Answer {
	types := []int32{api.PadRecord, api.PadRecord, 0, 1, 2, -2, math.MaxInt32, math.MinInt32}
	x := api.Answer{V: header(c.length(size), types[c.below(len(types))]), B: row(8), Done: c.below(2) == 0}
	if c.below(4) == 0 {
		x.B = row(c.below(20))
	}
	return x
}

// step is an access, what is told then, and how many messages were read ahead of it.
type step struct {
	turn
	messages int
}

// modelled is what a machine must do when it is told anything, and how it ends.
func modelled(r api.Ring, most int, c *chance) (l []step, m []api.Message, done int, odd bool) {
	ask := func(a api.Access) api.Answer {
		x := c.answer(r.Size)
		if len(l) == 0 {
			x.V = uint64(c.position(r.Size))
		}
		l = append(l, step{turn{a, x}, len(m)})
		return x
	}
	done, odd = model{r, ask, func(x api.Message) { m = append(m, x) }}.get(most)
	return l, m, done, odd
}

// P8.1: whatever it is told: many machines against the model.
func TestAgainstModel(t *testing.T) {
	var ends [4]int
	for start := range 20000 {
		c := chance(start)
		r := api.Ring{Base: 8 * c.below(100), Size: api.MinRing << c.below(5)}
		most := 1 + c.below(12)
		l, m, done, odd := modelled(r, most, &c)
		g := ringget.New(r, most)
		for i, x := range l {
			a, ok := g.Next()
			if !ok || !reflect.DeepEqual(plain(a), plain(x.a)) {
				t.Fatal(start, i, a, ok, "not", x.a)
			}
			if v, e := g.Result(); v != 0 || e != api.ErrBusy {
				t.Fatal(start, i, v, e)
			}
			if got := g.Messages(); !same(got, m[:x.messages]) {
				t.Fatal(start, i, got, "not", m[:x.messages])
			}
			g.Take(x.x)
		}
		end := min(done, 1)
		if odd {
			end += 2
			ended(t, g, 0, api.ErrOdd, m...)
		} else {
			ended(t, g, int64(done), api.OK, m...)
		}
		ends[end]++
	}
	if slices.Min(ends[:]) < 300 {
		t.Error("too few of an end", ends)
	}
}

// fresh is a buffer for a ring, whose bytes are 0, to its last byte, and whose numbers are all as they are told.
func fresh(t *testing.T, r api.Ring, all int64) *membuf.Buffer {
	t.Helper()
	b, e := membuf.New(r.Base + r.Size + ringput.RingTail)
	if e != api.OK {
		t.Fatal(e)
	}
	for i := range 3 {
		b.Do(store(r.Base+r.Size+8*i, all))
	}
	return b
}

// machine is a put, or a get.
type machine interface {
	Next() (api.Access, bool)
	Take(x api.Answer)
}

// goOn does a machine's next access, if it isn't at its end; none is refused.
func goOn(t *testing.T, b *membuf.Buffer, m machine) bool {
	t.Helper()
	a, ok := m.Next()
	if !ok {
		return false
	}
	x, e := b.Do(a)
	if e != api.OK {
		t.Fatal(a, e)
	}
	m.Take(x)
	return true
}

// run does all of a machine's accesses.
func run(t *testing.T, b *membuf.Buffer, m machine) {
	t.Helper()
	for range 8 + api.MaxRing {
		if !goOn(t, b, m) {
			return
		}
	}
	t.Fatal("no end")
}

// get takes messages out of a ring: those, and by how much the head was moved on.
func get(t *testing.T, b *membuf.Buffer, r api.Ring, most int) ([]api.Message, int64) {
	t.Helper()
	g := ringget.New(r, most)
	run(t, b, g)
	v, e := g.Result()
	if e != api.OK {
		t.Fatal(v, e)
	}
	return g.Messages(), v
}

// number is one of a ring's numbers.
func number(t *testing.T, b *membuf.Buffer, r api.Ring, behind int) int64 {
	t.Helper()
	x, e := b.Do(load(r.Base + r.Size + behind))
	if e != api.OK {
		t.Fatal(e)
	}
	return int64(x.V)
}

// isZero asks whether so many of a ring's bytes are 0, from a position on.
func isZero(b *membuf.Buffer, r api.Ring, position, n int64) bool {
	size := int64(r.Size)
	place := (position%size + size) % size
	return bytes.Count(b.Bytes()[r.Base:][place:place+n], []byte{0}) == int(n)
}

// P8.2: the chapter's example.
func TestExample(t *testing.T) {
	r := api.Ring{Size: 64}
	b := fresh(t, r, 0)
	if l, v := get(t, b, r, 5); len(l) != 0 || v != 0 {
		t.Error(l, v)
	}
	if !bytes.Equal(b.Bytes(), make([]byte, 96)) {
		t.Error(b.Bytes())
	}
}

// P8.2: what was put till the ring was full comes out, most by most, in order, each once, and leaves bytes that are 0; round and round, from any position on.
func TestFillAndDrain(t *testing.T) {
	for start := range 400 {
		c := chance(start)
		r := api.Ring{Base: 8 * c.below(10), Size: api.MinRing << c.below(8)}
		at := []int64{0, 0, int64(r.Size), -int64(r.Size), math.MaxInt64 - int64(r.Size) + 1, 24, -40}[c.below(7)]
		b := fresh(t, r, at)
		for range 12 {
			want := fill(t, b, r, &c)
			most := 1 + c.below(5)
			if c.below(3) == 0 {
				most = math.MaxInt
			}
			for n := 0; len(want) > 0; n++ {
				if n > r.Size {
					t.Fatal(start, "no end")
				}
				head := number(t, b, r, 16)
				l, v := get(t, b, r, most)
				if len(l) > most || len(l) > len(want) || !same(l, want[:len(l)]) {
					t.Fatal(start, l, "not", want)
				}
				if v < int64(8*len(l)) || len(l) == 0 && v == 0 || !isZero(b, r, head, v) {
					t.Fatal(start, v, "of", b.Bytes())
				}
				if number(t, b, r, 16) != head+v {
					t.Fatal(start, "head", number(t, b, r, 16), "not", head+v)
				}
				want = want[len(l):]
			}
			if number(t, b, r, 0) != number(t, b, r, 16) || !isZero(b, r, 0, int64(r.Size)) {
				t.Fatal(start, "left", b.Bytes())
			}
			if l, v := get(t, b, r, most); len(l) != 0 || v != 0 {
				t.Fatal(start, l, v, "of an empty ring")
			}
		}
	}
}

// fill puts messages of any lengths and types till one has no room: those that had some.
func fill(t *testing.T, b *membuf.Buffer, r api.Ring, c *chance) []api.Message {
	t.Helper()
	var l []api.Message
	for {
		m := message(int32(1+c.below(1<<31-1)), c.below(r.Size/8+1))
		p := ringput.New(r, m.Type, m.Data)
		run(t, b, p)
		switch _, e := p.Result(); e {
		case api.OK:
			l = append(l, m)
		case api.ErrFull:
			return l
		default:
			t.Fatal(e)
		}
	}
}

// P8.2: of a put that stopped at any of its steps nothing comes, and nothing of those behind it; when it goes on, all come, in the order of their positions.
func TestStopped(t *testing.T) {
	r := api.Ring{Base: 8, Size: 256}
	for stop := range 12 {
		b := fresh(t, r, 0)
		first := ringput.New(r, 1, row(5))
		run(t, b, first)
		p := ringput.New(r, 2, row(32))
		steps := 0
		for steps < stop && goOn(t, b, p) {
			steps++
		}
		behind := ringput.New(r, 3, row(8))
		run(t, b, behind)
		want := []api.Message{message(1, 5)}
		if steps < 3 { // it hasn't claimed yet
			want = append(want, message(3, 8))
		} else if _, ok := p.Next(); !ok {
			want = append(want, message(2, 32), message(3, 8))
		}
		for range 3 {
			l, v := get(t, b, r, 9)
			if !same(l, want) || (v == 0) != (len(want) == 0) {
				t.Fatal(stop, l, v, "not", want)
			}
			want = nil
		}
		run(t, b, p)
		l, _ := get(t, b, r, 9)
		switch {
		case steps < 3:
			want = []api.Message{message(2, 32)}
		case steps < 9:
			want = []api.Message{message(2, 32), message(3, 8)}
		}
		if !same(l, want) || !isZero(b, r, 0, 256) || number(t, b, r, 16) != number(t, b, r, 0) {
			t.Fatal(stop, l, "not", want)
		}
	}
}

// put is a message that is put, and where it was claimed.
type put struct {
	at int64
	m  api.Message
}

// putter puts messages of its own, each again and again till it has room.
type putter struct {
	r    api.Ring
	left []api.Message
	p    *ringput.Put
	did  []put
}

// Next is the next access of the message that comes first.
func (x *putter) Next() (api.Access, bool) {
	for len(x.left) > 0 {
		if x.p == nil {
			x.p = ringput.New(x.r, x.left[0].Type, x.left[0].Data)
		}
		if a, ok := x.p.Next(); ok {
			return a, true
		}
		if at, e := x.p.Result(); e == api.OK {
			x.did = append(x.did, put{at, x.left[0]})
			x.left = x.left[1:]
		}
		x.p = nil
	}
	return api.Access{}, false
}

// Take tells what the access told.
func (x *putter) Take(a api.Answer) { x.p.Take(a) }

// race lets putters and a get, again and again, take turns till all was put and taken: what was put in the order of positions, and what was taken.
func race(t *testing.T, r api.Ring, at int64, c *chance) (want []put, got []api.Message) {
	t.Helper()
	b := fresh(t, r, at)
	var l []*putter
	for i := range 1 + c.below(5) {
		x := &putter{r: r}
		for j := range 1 + c.below(12) {
			x.left = append(x.left, message(int32(100*(i+1)+j), c.below(r.Size/8+1)))
		}
		l = append(l, x)
	}
	g, head := ringget.New(r, 1+c.below(4)), at
	end, often := 0, 2+c.below(5)
	for n := 0; end < 2; n++ {
		if n > 1<<20 {
			t.Fatal("no end")
		}
		if c.below(often) > 0 {
			goOn(t, b, l[c.below(len(l))])
			continue
		}
		if goOn(t, b, g) {
			continue
		}
		v, e := g.Result()
		if e != api.OK || v > 0 && number(t, b, r, 16) != head+v {
			t.Fatal(v, e, head, number(t, b, r, 16))
		}
		head += v
		got = append(got, g.Messages()...)
		g = ringget.New(r, 1+c.below(4))
		end++
		for _, x := range l {
			if _, ok := x.Next(); ok || v > 0 {
				end = 0
			}
		}
	}
	for _, x := range l {
		want = append(want, x.did...)
	}
	slices.SortFunc(want, func(x, y put) int {
		if x.at-y.at < 0 { // positions go round
			return -1
		}
		return 1
	})
	if head != number(t, b, r, 0) || !isZero(b, r, 0, int64(r.Size)) {
		t.Fatal(head, b.Bytes())
	}
	return want, got
}

// P8.2: whatever is put in between: many put at once, one takes.
func TestManyAtOnce(t *testing.T) {
	for start := range 600 {
		c := chance(start)
		r := api.Ring{Base: 8 * c.below(4), Size: api.MinRing << c.below(3)}
		want, got := race(t, r, []int64{0, -64, math.MaxInt64 - 255}[c.below(3)]/int64(r.Size)*int64(r.Size), &c)
		if len(want) != len(got) {
			t.Fatal(start, len(want), "put", len(got), "taken")
		}
		for i, x := range want {
			if !same(got[i:i+1], []api.Message{x.m}) {
				t.Fatal(start, i, got[i], "not", x)
			}
		}
	}
}

// P8.2: the room of what is taken is its own till its bytes are 0: those that put have none of it ahead of the head's last step.
func TestRoomIsHandedBackLast(t *testing.T) {
	r := api.Ring{Size: 64}
	b := fresh(t, r, 0)
	for range 4 {
		run(t, b, ringput.New(r, 1, row(8)))
	}
	g := ringget.New(r, 2)
	for range 1000 {
		p := ringput.New(r, 2, row(8))
		run(t, b, p)
		if _, ok := g.Next(); !ok {
			if at, e := p.Result(); at != 64 || e != api.OK || !isZero(b, r, 16, 16) {
				t.Fatal(at, e, b.Bytes())
			}
			has(t, g, message(1, 8), message(1, 8))
			return
		}
		if at, e := p.Result(); at != 0 || e != api.ErrFull {
			t.Fatal(at, e)
		}
		goOn(t, b, g)
	}
	t.Fatal("no end")
}
