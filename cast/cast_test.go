package cast_test

import (
	"bytes"
	"math"
	"reflect"
	"testing"

	"millstream/api"
	"millstream/cast"
	"millstream/sched"
)

// small is a broadcast that stands behind some bytes: its records at 16, the intent at 80, the tail at 88, the latest at 96.
var small = api.Ring{Base: 16, Size: 64}

// bad are broadcasts that may not be.
var bad = []api.Ring{
	{}, {Base: 4, Size: 64}, {Size: 32}, {Size: 96}, {Base: -8, Size: 64}, {Base: api.MaxBuffer, Size: 64},
	{Base: api.MaxBuffer - 64 - 24, Size: 64}, {Size: 16384}, {Size: -64}, {Size: math.MinInt}, {Base: math.MaxInt - 7, Size: 64},
}

// row is n bytes that are 1, 2, 3, .., none of them 0.
func row(n int) []byte {
	l := make([]byte, n)
	for i := range l {
		l[i] = byte(i%255 + 1)
	}
	return l
}

// message is one whose bytes are told by their number.
func message(typ int32, n int) api.Message { return api.Message{Type: typ, Data: row(n)} }

// header is a record's, by its halves.
func header(length, typ int32) uint64 {
	return uint64(uint32(length)) + uint64(uint32(typ))<<32
}

func load(at int) api.Access { return api.Access{Kind: api.Load, At: at, N: 8} }

func store(at int, v uint64) api.Access { return api.Access{Kind: api.Store, At: at, N: 8, V: v} }

// number stores a position.
func number(at int, v int64) api.Access { return store(at, uint64(v)) }

func write(at int, b []byte) api.Access {
	return api.Access{Kind: api.Write, At: at, N: len(b), B: b}
}

// answers are some that a machine may be told; none of them counts, but for the number of the tail.
var answers = []api.Answer{{}, {Done: true}, {V: header(16, 1)}, {V: 8, Done: true, B: []byte("told")}}

// plain is an access whose list is nil where it is empty: both mean the same.
func plain(a api.Access) api.Access {
	if len(a.B) == 0 {
		a.B = nil
	}
	return a
}

// is asks whether a machine's next access is this one, always the same.
func is(t *testing.T, m sched.Machine, want api.Access) {
	t.Helper()
	for range 2 {
		if a, ok := m.Next(); !ok || !reflect.DeepEqual(plain(a), plain(want)) {
			t.Fatal(a, ok, "not", want)
		}
	}
}

// does asks for an access, which tells so much.
func does(t *testing.T, m sched.Machine, want api.Access, x api.Answer) {
	t.Helper()
	is(t, m, want)
	m.Take(x)
}

// atEnd asks whether a machine is at its end, and stays there, whatever it is told.
func atEnd(t *testing.T, m sched.Machine) {
	t.Helper()
	for _, x := range answers {
		if a, ok := m.Next(); ok || !reflect.DeepEqual(a, api.Access{}) {
			t.Fatal("an access at the end", a, ok)
		}
		m.Take(x)
	}
}

// result asks how a machine stands.
func result(t *testing.T, s *cast.Send, at int64, e api.Errno) {
	t.Helper()
	if v, f := s.Result(); v != at || f != e {
		t.Fatal("result", v, f, "not", at, e)
	}
}

// ended asks whether a machine is at its end, with that result, and stays so.
func ended(t *testing.T, s *cast.Send, at int64, e api.Errno) {
	t.Helper()
	result(t, s, at, e)
	atEnd(t, s)
	result(t, s, at, e)
}

// sends holds a machine's accesses against those behind the tail's, and its end against a position; it is busy meanwhile.
func sends(t *testing.T, s *cast.Send, tail, at int64, l ...api.Access) {
	t.Helper()
	result(t, s, 0, api.ErrBusy)
	does(t, s, load(88), api.Answer{V: uint64(tail)})
	for i, a := range l {
		t.Log("access", i)
		result(t, s, 0, api.ErrBusy)
		does(t, s, a, answers[i%len(answers)])
	}
	ended(t, s, at, api.OK)
}

// P11.1: what may not be is at its end at once; the broadcast and the type are named ahead of the length.
func TestRefused(t *testing.T) {
	for _, n := range []int{0, 1, 8, 9, 64, 1024, 1025, api.MaxBuffer, api.MaxBuffer + 1} {
		for _, typ := range []int32{1, 2, 0, -1, api.PadRecord, math.MinInt32, math.MaxInt32} {
			for _, r := range bad {
				ended(t, cast.New(r, typ, row(n)), 0, api.ErrArg)
			}
			s := cast.New(small, typ, row(n))
			switch {
			case typ < 1:
				ended(t, s, 0, api.ErrArg)
			case n > 8:
				ended(t, s, 0, api.ErrLong)
			default:
				is(t, s, load(88))
				result(t, s, 0, api.ErrBusy)
			}
		}
	}
}

// P11.1: a message has an eighth of the broadcast's bytes at most, and may be of no bytes; a broadcast may stand at a buffer's end.
func TestLengths(t *testing.T) {
	for size := api.MinRing; size <= api.MaxRing; size *= 2 {
		r := api.Ring{Base: api.MaxBuffer - size - 32, Size: size}
		for _, n := range []int{size/8 + 1, size/8 + 8, size / 4, size, 2 * size} {
			ended(t, cast.New(r, 1, row(n)), 0, api.ErrLong)
		}
		for _, n := range []int{0, 1, size/8 - 1, size / 8} {
			s := cast.New(r, 1, row(n))
			does(t, s, load(r.Base+size+8), api.Answer{})
			is(t, s, number(r.Base+size, int64(8+(n+7)/8*8)))
		}
	}
}

// P11.1: no machine at all, and one that nothing made.
func TestNil(t *testing.T) {
	ended(t, nil, 0, api.ErrArg)
	ended(t, &cast.Send{}, 0, api.ErrArg)
	for _, c := range []*cast.Caster{nil, {}, cast.All(small, nil), cast.All(small, []api.Message{}), cast.All(api.Ring{}, nil)} {
		atEnd(t, c)
		did(t, c)
		stand(t, c)
	}
}

// P11.1: the tail, the intent, the header, the bytes, the latest, the tail.
func TestPlainSend(t *testing.T) {
	sends(t, cast.New(small, 7, row(8)), 0, 0,
		number(80, 16),
		store(16, header(16, 7)), write(24, row(8)),
		number(96, 0), number(88, 16))
	sends(t, cast.New(small, 1, row(3)), 80, 80,
		number(80, 96),
		store(32, header(11, 1)), write(40, row(3)),
		number(96, 80), number(88, 96))
}

// P11.1: the bytes stand in chunks, and what fills a record up isn't written; of no bytes there is no chunk.
func TestChunks(t *testing.T) {
	b := row(61)
	s := cast.New(api.Ring{Size: 512}, math.MaxInt32, b)
	does(t, s, load(520), api.Answer{V: 128})
	does(t, s, number(512, 128+72), api.Answer{})
	does(t, s, store(128, header(69, math.MaxInt32)), api.Answer{})
	for i := 0; i < 61; i += 8 {
		does(t, s, write(136+i, b[i:min(i+8, 61)]), api.Answer{})
	}
	does(t, s, number(528, 128), api.Answer{})
	does(t, s, number(520, 200), api.Answer{})
	ended(t, s, 128, api.OK)
	sends(t, cast.New(small, 1, nil), 8, 8,
		number(80, 16), store(24, header(8, 1)), number(96, 8), number(88, 16))
}

// P11.1: a record that doesn't fit ahead of the end stands at the beginning, behind padding; the intent is told ahead of that, for both.
func TestPadding(t *testing.T) {
	sends(t, cast.New(small, 9, row(8)), 56, 64,
		number(80, 80), store(72, header(8, -1)),
		store(16, header(16, 9)), write(24, row(8)),
		number(96, 64), number(88, 80))
	r := api.Ring{Base: 16, Size: 128}
	s := cast.New(r, 9, row(16))
	does(t, s, load(152), api.Answer{V: 128 + 112})
	does(t, s, number(144, 256+24), api.Answer{})
	does(t, s, store(128, header(16, -1)), api.Answer{})
	is(t, s, store(16, header(24, 9)))
}

// P11.1: ahead of the end as many bytes as are needed are enough, and no padding is made; nor at the beginning.
func TestNoPadding(t *testing.T) {
	sends(t, cast.New(small, 9, row(8)), 48, 48,
		number(80, 64), store(64, header(16, 9)), write(72, row(8)), number(96, 48), number(88, 64))
	sends(t, cast.New(small, 9, nil), 56, 56,
		number(80, 64), store(72, header(8, 9)), number(96, 56), number(88, 64))
	sends(t, cast.New(small, 9, nil), 64, 64,
		number(80, 72), store(16, header(8, 9)), number(96, 64), number(88, 72))
}

// P11.1: positions go round; places aren't below 0.
func TestPositionsGoRound(t *testing.T) {
	const most, least = math.MaxInt64, math.MinInt64
	sends(t, cast.New(small, 5, row(8)), most-7, least,
		number(80, least+16), store(72, header(8, -1)),
		store(16, header(16, 5)), write(24, row(8)), number(96, least), number(88, least+16))
	sends(t, cast.New(small, 5, row(8)), most-15, most-15,
		number(80, least), store(64, header(16, 5)), write(72, row(8)), number(96, most-15), number(88, least))
	sends(t, cast.New(small, 5, nil), least+24, least+24,
		number(80, least+32), store(40, header(8, 5)), number(96, least+24), number(88, least+32))
	sends(t, cast.New(small, 5, nil), -40, -40,
		number(80, -32), store(40, header(8, 5)), number(96, -40), number(88, -32))
	sends(t, cast.New(small, 5, row(1)), -8, 0,
		number(80, 16), store(72, header(8, -1)),
		store(16, header(9, 5)), write(24, row(1)), number(96, 0), number(88, 16))
}

// P11.1: a tail that is no multiple of 8 is taken as it stands.
func TestOddTail(t *testing.T) {
	sends(t, cast.New(small, 5, nil), 63, 64,
		number(80, 72), store(79, header(1, -1)), store(16, header(8, 5)), number(96, 64), number(88, 72))
	sends(t, cast.New(small, 5, nil), 57, 64,
		number(80, 72), store(73, header(7, -1)), store(16, header(8, 5)), number(96, 64), number(88, 72))
	sends(t, cast.New(small, 5, nil), 3, 3,
		number(80, 11), store(19, header(8, 5)), number(96, 3), number(88, 11))
}

// P11.1: a machine goes on though nobody asked it for its next access; of what it is told the tail's number alone counts.
func TestTakeAlone(t *testing.T) {
	s := cast.New(small, 5, row(8))
	for _, x := range []api.Answer{{V: 32, Done: true, B: row(9)}, {V: 8}, {V: 9, B: row(1)}} {
		s.Take(x)
	}
	does(t, s, write(56, row(8)), api.Answer{V: 24})
	does(t, s, number(96, 32), api.Answer{})
	result(t, s, 0, api.ErrBusy)
	s.Take(api.Answer{V: 1})
	ended(t, s, 32, api.OK)
}

// P11.1: what is handed in is neither kept nor changed, its spare room neither; what is answered is new memory.
func TestMemory(t *testing.T) {
	all := row(40)
	s := cast.New(api.Ring{Base: 16, Size: 256}, 5, all[:20])
	if !bytes.Equal(all, row(40)) {
		t.Error(all)
	}
	clear(all)
	for range 3 {
		s.Take(api.Answer{})
	}
	for _, want := range []api.Access{write(24, row(8)), write(32, row(16)[8:]), write(40, row(20)[16:])} {
		is(t, s, want)
		a, _ := s.Next()
		clear(append(a.B, 1, 2, 3))
		clear(a.B)
		does(t, s, want, api.Answer{})
	}
	if !bytes.Equal(all, make([]byte, 40)) {
		t.Error(all)
	}
}

// P11.1: machines don't depend on one another, those that were made of the same neither.
func TestMachinesAreTheirOwn(t *testing.T) {
	b := row(8)
	one, other := cast.New(small, 5, b), cast.New(small, 5, b)
	for _, x := range []api.Answer{{V: 32}, {}, {}, {}, {}} {
		one.Take(x)
	}
	sends(t, other, 56, 64,
		number(80, 80), store(72, header(8, -1)), store(16, header(16, 5)), write(24, row(8)), number(96, 64), number(88, 80))
	does(t, one, number(88, 48), api.Answer{})
	ended(t, one, 32, api.OK)
}

// chance tells numbers from 0 to below n, always the same ones for the same start.
type chance uint64

func (c *chance) below(n int) int {
	*c = *c*6364136223846793005 + 1442695040888963407
	return int(*c >> 33 % chance(n))
}

// position is any: mostly a multiple of 8, near 0 or near where positions go round.
func (c *chance) position() int64 {
	p := []int64{0, 1 << 20, -64, math.MaxInt64, math.MinInt64, math.MaxInt32, -1 << 32}[c.below(7)]
	p += int64(c.below(1<<15) - 1<<14)
	if c.below(8) > 0 {
		p = p / 8 * 8
	}
	return p
}

// answer is any answer.
func (c *chance) answer() api.Answer {
	return api.Answer{V: uint64(c.position()), Done: c.below(2) > 0, B: row(c.below(12))}
}

// steps are what a send must do behind the tail's Load, as the chapter's words stand; and its record's position.
func steps(r api.Ring, tail int64, m api.Message) (l []api.Access, at int64) {
	size, need := int64(r.Size), int64(8+len(m.Data))
	for need%8 != 0 {
		need++
	}
	place := (tail%size + size) % size
	gap := size - place
	at = tail
	if need > gap {
		at = tail + gap
		l = append(l, number(r.Base+r.Size, tail+gap+need), store(r.Base+int(place), header(int32(gap), -1)))
		place = 0
	} else {
		l = append(l, number(r.Base+r.Size, tail+need))
	}
	first := r.Base + int(place)
	l = append(l, store(first, header(int32(8+len(m.Data)), m.Type)))
	for i := 0; i < len(m.Data); i += 8 {
		l = append(l, write(first+8+i, m.Data[i:min(i+8, len(m.Data))]))
	}
	return append(l, number(r.Base+r.Size+16, at), number(r.Base+r.Size+8, at+need)), at
}

// P11.1: whatever it is told.
func TestToldAnything(t *testing.T) {
	padded := 0
	for start := range 20000 {
		c := chance(start)
		r := api.Ring{Base: 8 * c.below(100), Size: api.MinRing << c.below(8)}
		m, x := message(int32(1+c.below(math.MaxInt32)), c.below(r.Size/8+1)), c.answer()
		l, at := steps(r, int64(x.V), m)
		s := cast.New(r, m.Type, m.Data)
		does(t, s, load(r.Base+r.Size+8), x)
		for _, a := range l {
			result(t, s, 0, api.ErrBusy)
			does(t, s, a, c.answer())
		}
		ended(t, s, at, api.OK)
		if at != int64(x.V) {
			padded++
		}
	}
	if padded < 1000 {
		t.Error("too little padding", padded)
	}
}
