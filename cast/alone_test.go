package cast_test

import (
	"bytes"
	"encoding/binary"
	"math"
	"testing"

	"millstream/api"
	"millstream/cast"
	"millstream/membuf"
	"millstream/sched"
)

// fresh is a buffer for a broadcast, to its last byte: the bytes ahead of it and behind it are 200, its own 0; it is as if so many bytes had been sent.
func fresh(t *testing.T, r api.Ring, from int64) *membuf.Buffer {
	t.Helper()
	b, e := membuf.New(r.Base + r.Size + 32)
	if e != api.OK {
		t.Fatal(e)
	}
	for at := range r.Base {
		b.Do(write(at, []byte{200}))
	}
	b.Do(number(r.Base+r.Size, from))
	b.Do(number(r.Base+r.Size+8, from))
	b.Do(write(r.Base+r.Size+24, bytes.Repeat([]byte{200}, 8)))
	return b
}

// goOn does a machine's next access, if it isn't at its end; none is refused.
func goOn(t *testing.T, b *membuf.Buffer, m sched.Machine) bool {
	t.Helper()
	a, ok := m.Next()
	if !ok {
		return false
	}
	x, e := b.Do(a)
	if e != api.OK {
		t.Fatal(a, e)
	}
	m.Take(x)
	return true
}

// run does all of a machine's accesses.
func run(t *testing.T, b *membuf.Buffer, m sched.Machine) {
	t.Helper()
	for range 1 << 20 {
		if !goOn(t, b, m) {
			return
		}
	}
	t.Fatal("no end")
}

// tells asks for the intent, the tail and the latest.
func tells(t *testing.T, b *membuf.Buffer, r api.Ring, want ...int64) {
	t.Helper()
	l := b.Bytes()[r.Base+r.Size:]
	for i, v := range want {
		if x := binary.LittleEndian.Uint64(l[8*i:]); x != uint64(v) {
			t.Fatal("number", i, "is", int64(x), "not", v)
		}
	}
}

// record is a record's bytes; what fills it up isn't one of them.
func record(m api.Message) []byte {
	l := binary.LittleEndian.AppendUint32(nil, uint32(8+len(m.Data)))
	return append(binary.LittleEndian.AppendUint32(l, uint32(m.Type)), m.Data...)
}

// sized is how many bytes a record takes.
func sized(m api.Message) int64 { return int64(8 + (len(m.Data)+7)/8*8) }

// P11.2: the chapter's example, and the intent ahead of all else.
func TestExample(t *testing.T) {
	r := api.Ring{Size: 64}
	b, _ := membuf.New(96)
	s := cast.New(r, 1, row(8))
	goOn(t, b, s)
	tells(t, b, r, 0, 0, 0)
	goOn(t, b, s)
	tells(t, b, r, 16, 0, 0)
	if !bytes.Equal(b.Bytes()[:64], make([]byte, 64)) {
		t.Error(b.Bytes())
	}
	run(t, b, s)
	ended(t, s, 0, api.OK)
	tells(t, b, r, 16, 16, 0)
}

// P11.2: also by casters, in a world of their own: two messages, then two that are the newest over the eldest.
func TestInAWorld(t *testing.T) {
	b := fresh(t, small, 0)
	first := cast.All(small, []api.Message{message(1, 8), message(2, 8), message(3, 5)})
	sched.New(b, []sched.Machine{first}).Robin(api.MaxPicks)
	stand(t, first, 0, 16, 32)
	tells(t, b, small, 48, 48, 32)
	next := cast.All(small, []api.Message{message(4, 1), message(5, 8)})
	sched.New(b, []sched.Machine{next}).Robin(api.MaxPicks)
	stand(t, next, 48, 64)
	tells(t, b, small, 80, 80, 64)
	want := bytes.Join([][]byte{record(message(5, 8)), record(message(2, 8)), record(message(3, 5)), {0, 0, 0}, record(message(4, 1)), make([]byte, 7)}, nil)
	if got := b.Bytes()[16:80]; !bytes.Equal(got, want) {
		t.Error(got, "not", want)
	}
}

// A sender is a broadcast that one sends to, and what must stand in its buffer.
type sender struct {
	t    *testing.T
	r    api.Ring
	b    *membuf.Buffer
	all  []byte // of the records
	tail int64
	sent []api.Heard
}

// put lays bytes at a position's place.
func (s *sender) put(position int64, b []byte) {
	size := int64(s.r.Size)
	copy(s.all[(position%size+size)%size:], b)
}

// place is where a message must stand; pad is how many bytes must be padding ahead of it.
func (s *sender) place(m api.Message) (at, pad int64) {
	size := int64(s.r.Size)
	if left := size - (s.tail%size+size)%size; sized(m) > left {
		pad = left
	}
	return s.tail + pad, pad
}

// send notes that a message was sent.
func (s *sender) send(m api.Message) int64 {
	at, pad := s.place(m)
	if pad > 0 {
		s.put(s.tail, binary.LittleEndian.AppendUint64(nil, header(int32(pad), api.PadRecord)))
	}
	s.put(at, record(m))
	s.tail = at + sized(m)
	s.sent = append(s.sent, api.Heard{At: at, Message: m})
	return at
}

// holds asks whether all stands so: nothing else was written, and what was sent last stands whole, back to the broadcast's size.
func (s *sender) holds() {
	s.t.Helper()
	all := s.b.Bytes()
	records := all[s.r.Base:][:s.r.Size]
	if !bytes.Equal(records, s.all) {
		s.t.Fatal(records, "not", s.all)
	}
	want := bytes.Repeat([]byte{200}, s.r.Base+8)
	if got := append(all[:s.r.Base:s.r.Base], all[s.r.Base+s.r.Size+24:]...); !bytes.Equal(got, want) {
		s.t.Fatal("around it", got)
	}
	size := int64(s.r.Size)
	for i := len(s.sent) - 1; i >= 0 && s.sent[i].At+size-s.tail >= 0; i-- {
		x := s.sent[i]
		want := record(x.Message)
		if got := records[(x.At%size+size)%size:][:len(want)]; !bytes.Equal(got, want) {
			s.t.Fatal("at", x.At, got, "not", want)
		}
	}
	tells(s.t, s.b, s.r, s.tail, s.tail, s.sent[len(s.sent)-1].At)
}

// P11.2: messages of any lengths, one behind the other, round and round, the newest over the eldest; also where positions go round.
func TestAlone(t *testing.T) {
	padded := 0
	for start := range 300 {
		c := chance(start)
		r := api.Ring{Base: 8 * c.below(10), Size: api.MinRing << c.below(8)}
		from := []int64{0, 8, -64, -1 << 20, math.MaxInt64 - 255, math.MaxInt64 - 7, math.MinInt64}[c.below(7)]
		s := &sender{t: t, r: r, b: fresh(t, r, from), all: make([]byte, r.Size), tail: from}
		most := 1 + c.below(r.Size/8+1)
		for range 60 {
			m := message(int32(1+c.below(math.MaxInt32)), c.below(most))
			x := cast.New(r, m.Type, m.Data)
			run(t, s.b, x)
			was := s.tail
			at := s.send(m)
			ended(t, x, at, api.OK)
			s.holds()
			if at != was {
				padded++
			}
		}
	}
	if padded < 300 {
		t.Error("too little padding", padded)
	}
}

// P11.2: casters alone, one behind the other: the messages of each stand as they were sent, but those that are refused.
func TestCastersAlone(t *testing.T) {
	for start := range 200 {
		c := chance(start)
		r := api.Ring{Base: 8 * c.below(10), Size: api.MinRing << c.below(3)}
		s := &sender{t: t, r: r, b: fresh(t, r, 0), all: make([]byte, r.Size)}
		for range 5 {
			l := []api.Message{message(1, 0)}
			for range c.below(20) {
				l = append(l, message(int32(c.below(9)), c.below(r.Size/7)))
			}
			x := cast.All(r, l)
			run(t, s.b, x)
			var places []int64
			for _, m := range l {
				if m.Type > 0 && len(m.Data) <= r.Size/8 {
					places = append(places, s.send(m))
				}
			}
			stand(t, x, places...)
			s.holds()
		}
	}
}

// P11.2: the longest messages, and the shortest, of each broadcast, at a buffer's end.
func TestLongestAndShortest(t *testing.T) {
	for size := api.MinRing; size <= api.MaxRing; size *= 2 {
		r := api.Ring{Base: api.MaxBuffer - size - 32, Size: size}
		for _, n := range []int{0, size / 8} {
			s := &sender{t: t, r: r, b: fresh(t, r, 0), all: make([]byte, size)}
			for range 20 {
				m := message(3, n)
				run(t, s.b, cast.New(r, m.Type, m.Data))
				s.send(m)
			}
			s.holds()
		}
	}
}

// P11.2: a sender that stops for ever behind any of its steps: the tail and what stands ahead of it are as they were, but what stands behind the intent less the size; who sends then sends in its place.
func TestStopsAtEachStep(t *testing.T) {
	for _, tail := range []int64{0, 40, 48, 56, 64, 120} {
		for stop := range 20 {
			b := fresh(t, small, tail)
			for i := range 8 {
				b.Do(write(16+8*i, bytes.Repeat([]byte{100}, 8)))
			}
			b.Do(number(96, -8))
			m := message(9, 8)
			s := cast.New(small, m.Type, m.Data)
			did := 0
			for did < stop && goOn(t, b, s) {
				did++
			}
			after(t, b, s, tail, m, did)
			again := &sender{t: t, r: small, b: b, all: b.Bytes()[16:80], tail: tail}
			if _, e := s.Result(); e == api.OK {
				again.tail, _ = again.place(m)
				again.tail += sized(m)
			}
			n := message(5, 3)
			run(t, b, cast.New(small, n.Type, n.Data))
			again.send(n)
			again.holds()
		}
	}
}

// after asks what a sender has done behind so many of its steps.
func after(t *testing.T, b *membuf.Buffer, s *cast.Send, tail int64, m api.Message, did int) {
	t.Helper()
	intent, now, latest := tail, tail, int64(-8)
	x := &sender{r: small, tail: tail}
	at, pad := x.place(m)
	last := 6 // steps of eight bytes that are sent
	if pad > 0 {
		last++
	}
	if did > 1 {
		intent = at + sized(m)
	}
	if did >= last-1 {
		latest = at
	}
	if did >= last {
		now = intent
	}
	tells(t, b, small, intent, now, latest)
	records := b.Bytes()[16:80]
	for p := intent - 64; p < tail; p++ {
		if records[(p%64+64)%64] != 100 {
			t.Fatal(tail, did, "at", p, records)
		}
	}
	if _, e := s.Result(); (e == api.OK) != (did >= last) {
		t.Fatal(tail, did, e)
	}
}
