package ringput_test

import (
	"bytes"
	"encoding/binary"
	"math"
	"reflect"
	"slices"
	"testing"

	"millstream/api"
	"millstream/membuf"
	"millstream/ringput"
	"millstream/sched"
)

// small is a ring that stands behind some bytes; its tail is at 80, the head's copy at 88, the head at 96.
var small = api.Ring{Base: 16, Size: 64}

// row is n bytes that are 1, 2, 3, .., none of them 0.
func row(n int) []byte {
	l := make([]byte, n)
	for i := range l {
		l[i] = byte(i%255 + 1)
	}
	return l
}

// number is the eight bytes of a number that may be below 0.
func number(v int64) uint64 { return uint64(v) }

// header is a record's, by its halves.
func header(length, typ int32) uint64 {
	return uint64(uint32(length)) + uint64(uint32(typ))<<32
}

func load(at int) api.Access { return api.Access{Kind: api.Load, At: at, N: 8} }

func store(at, n int, v uint64) api.Access {
	return api.Access{Kind: api.Store, At: at, N: n, V: v}
}

func cas(at int, v, w int64) api.Access {
	return api.Access{Kind: api.Cas, At: at, N: 8, V: number(v), W: number(w)}
}

func write(at int, b []byte) api.Access {
	return api.Access{Kind: api.Write, At: at, N: len(b), B: b}
}

// told is an answer that tells a number, and done one of a Cas that stored.
func told(v int64) api.Answer { return api.Answer{V: number(v)} }

var (
	nothing = api.Answer{}
	done    = api.Answer{Done: true}
)

// turn is an access that a machine must do next, and what it is told then.
type turn struct {
	a api.Access
	x api.Answer
}

// plain is an access whose list is nil where it is empty: both mean the same.
func plain(a api.Access) api.Access {
	if len(a.B) == 0 {
		a.B = nil
	}
	return a
}

// is asks whether a machine's next access is this one, always the same, and whether it is busy as long as there is one.
func is(t *testing.T, m *ringput.Put, want api.Access) {
	t.Helper()
	for range 2 {
		if a, ok := m.Next(); !ok || !reflect.DeepEqual(plain(a), plain(want)) {
			t.Fatal(a, ok, "not", want)
		}
		if v, e := m.Result(); v != 0 || e != api.ErrBusy {
			t.Fatal(v, e, "not busy")
		}
	}
}

// stands asks whether a machine's record has a position, and which.
func stands(t *testing.T, m *ringput.Put, at int64, has bool) {
	t.Helper()
	if v, ok := m.At(); v != at || ok != has {
		t.Fatal("at", v, ok, "not", at, has)
	}
}

// ended asks whether a machine is at its end, with that result, and stays there, whatever it is told.
func ended(t *testing.T, m *ringput.Put, at int64, e api.Errno) {
	t.Helper()
	for _, x := range []api.Answer{nothing, done, told(-1), {V: 8, Done: true, B: row(9)}} {
		if a, ok := m.Next(); ok || !reflect.DeepEqual(a, api.Access{}) {
			t.Fatal("an access at the end", a, ok)
		}
		if v, f := m.Result(); v != at || f != e {
			t.Fatal("ended with", v, f, "not", at, e)
		}
		stands(t, m, at, e == api.OK)
		m.Take(x)
	}
}

// follow holds a machine's accesses against turns; its record has a position from the Cas that was done on.
func follow(t *testing.T, m *ringput.Put, at int64, l ...[]turn) {
	t.Helper()
	claimed := false
	for i, x := range slices.Concat(l...) {
		t.Log("turn", i)
		is(t, m, x.a)
		if claimed {
			stands(t, m, at, true)
		} else {
			stands(t, m, 0, false)
		}
		m.Take(x.x)
		claimed = claimed || x.a.Kind == api.Cas && x.x.Done
	}
}

// written are the turns of a message of eight bytes at most, by which its record gets whole.
func written(at int, typ int32, b []byte) []turn {
	length := int32(8 + len(b))
	return []turn{
		{store(at, 8, header(-length, typ)), nothing},
		{write(at+8, b), nothing},
		{store(at, 4, uint64(length)), nothing},
	}
}

// P7.1: which rings may be.
func TestCheck(t *testing.T) {
	const end = api.MaxBuffer
	for _, x := range []struct {
		base, size int
		want       api.Errno
	}{
		{0, 64, api.OK}, {8, 64, api.OK}, {0, 128, api.OK}, {0, 4096, api.OK}, {0, 8192, api.OK}, {24, 8192, api.OK},
		{end - 64 - 32, 64, api.OK}, {end - 8192 - 32, 8192, api.OK},
		{end - 64 - 24, 64, api.ErrArg}, {end - 8192 - 24, 8192, api.ErrArg}, {end - 64 - 31, 64, api.ErrArg},
		{end - 64, 64, api.ErrArg}, {end, 64, api.ErrArg}, {end + 8, 64, api.ErrArg}, {end - 64 - 32 + 8, 64, api.ErrArg},
		{end - 64 - 32, 128, api.ErrArg},
		{0, 0, api.ErrArg}, {0, 1, api.ErrArg}, {0, 8, api.ErrArg}, {0, 32, api.ErrArg}, {0, 63, api.ErrArg},
		{0, 65, api.ErrArg}, {0, 72, api.ErrArg}, {0, 96, api.ErrArg}, {0, 192, api.ErrArg}, {0, 8191, api.ErrArg},
		{0, 8193, api.ErrArg}, {0, 16384, api.ErrArg}, {0, end, api.ErrArg}, {0, 1 << 62, api.ErrArg}, {0, 1<<32 + 64, api.ErrArg},
		{0, -64, api.ErrArg}, {0, -1, api.ErrArg}, {0, math.MinInt, api.ErrArg}, {0, math.MaxInt, api.ErrArg},
		{4, 64, api.ErrArg}, {1, 64, api.ErrArg}, {7, 64, api.ErrArg}, {9, 64, api.ErrArg}, {60, 64, api.ErrArg},
		{-8, 64, api.ErrArg}, {-1, 64, api.ErrArg}, {-64, 8192, api.ErrArg}, {math.MinInt, 64, api.ErrArg},
		{math.MaxInt - 7, 64, api.ErrArg}, {math.MaxInt, 64, api.ErrArg}, {math.MinInt, math.MinInt, api.ErrArg}, {-8, -8, api.ErrArg},
	} {
		if e := ringput.Check(api.Ring{Base: x.base, Size: x.size}); e != x.want {
			t.Error(x.base, x.size, e, "not", x.want)
		}
	}
	if ringput.RingTail != 32 {
		t.Error(ringput.RingTail)
	}
}

// P7.1: of all sizes the powers may be, of all places those that are multiples of 8.
func TestCheckOfAll(t *testing.T) {
	powers := map[int]int{64: 1, 128: 1, 256: 1, 512: 1, 1024: 1, 2048: 1, 4096: 1, 8192: 1}
	for size := -100; size < 17000; size++ {
		if e := ringput.Check(api.Ring{Base: 8, Size: size}); (e == api.OK) != (powers[size] == 1) || e != api.OK && e != api.ErrArg {
			t.Fatal(size, e)
		}
	}
	for size := range powers {
		for base := -50; base < api.MaxBuffer+50; base++ {
			may := base >= 0 && base+size+32 <= api.MaxBuffer && base%8 == 0
			if e := ringput.Check(api.Ring{Base: base, Size: size}); (e == api.OK) != may || e != api.OK && e != api.ErrArg {
				t.Fatal(base, size, e)
			}
		}
	}
}

// P7.1: what may not be is at its end at once; the ring and the type are named ahead of the length.
func TestRefused(t *testing.T) {
	bad := []api.Ring{{}, {Base: 4, Size: 64}, {Size: 32}, {Size: 96}, {Base: -8, Size: 64}, {Base: api.MaxBuffer, Size: 64}, {Size: 16384}, {Size: math.MinInt}}
	types := []int32{1, 2, 0, -1, api.PadRecord, math.MinInt32, math.MaxInt32}
	for _, n := range []int{0, 1, 8, 9, 64, 1024, 1025, api.MaxBuffer, api.MaxBuffer + 1} {
		for _, typ := range types {
			for _, r := range bad {
				ended(t, ringput.New(r, typ, row(n)), 0, api.ErrArg)
			}
			if typ < 1 {
				ended(t, ringput.New(small, typ, row(n)), 0, api.ErrArg)
			} else if n > 8 {
				ended(t, ringput.New(small, typ, row(n)), 0, api.ErrLong)
			} else {
				is(t, ringput.New(small, typ, row(n)), load(88))
			}
		}
	}
}

// P7.1: a message has an eighth of the ring's bytes at most, and may be of no bytes.
func TestGreatestLength(t *testing.T) {
	for size := api.MinRing; size <= api.MaxRing; size *= 2 {
		r := api.Ring{Base: 40, Size: size}
		for _, n := range []int{size/8 + 1, size/8 + 8, size / 4, size, 2 * size} {
			ended(t, ringput.New(r, 1, row(n)), 0, api.ErrLong)
		}
		for _, n := range []int{0, 1, size/8 - 1, size / 8} {
			m, want := ringput.New(r, 1, row(n)), int64(8+(n+7)/8*8)
			is(t, m, load(40+size+8))
			m.Take(nothing)
			is(t, m, load(40+size))
			m.Take(nothing)
			is(t, m, cas(40+size, 0, want))
		}
	}
}

// P7.1: no machine at all, and one that nothing made.
func TestNil(t *testing.T) {
	ended(t, nil, 0, api.ErrArg)
	ended(t, &ringput.Put{}, 0, api.ErrArg)
}

// P7.1: on an empty ring: the head's copy, the tail, the claim, the header, the bytes, the length.
func TestPlainPut(t *testing.T) {
	m := ringput.New(small, 7, row(8))
	follow(t, m, 0, []turn{
		{load(88), told(0)},
		{load(80), told(0)},
		{cas(80, 0, 16), done},
		{store(16, 8, header(-16, 7)), nothing},
		{write(24, row(8)), nothing},
		{store(16, 4, 16), nothing},
	})
	ended(t, m, 0, api.OK)
}

// P7.1: the bytes stand in chunks, and what fills a record up isn't written; of no bytes there is no chunk.
func TestChunks(t *testing.T) {
	b := row(61)
	m := ringput.New(api.Ring{Size: 512}, math.MaxInt32, b)
	l := []turn{
		{load(520), told(64)},
		{load(512), told(128)},
		{cas(512, 128, 128+72), done},
		{store(128, 8, header(-69, math.MaxInt32)), nothing},
	}
	for i := 0; i < 56; i += 8 {
		l = append(l, turn{write(136+i, b[i:i+8]), nothing})
	}
	l = append(l, turn{write(192, b[56:]), nothing}, turn{store(128, 4, 69), nothing})
	follow(t, m, 128, l)
	ended(t, m, 128, api.OK)

	m = ringput.New(small, 1, nil)
	follow(t, m, 8, []turn{
		{load(88), told(0)},
		{load(80), told(8)},
		{cas(80, 8, 16), done},
		{store(24, 8, header(-8, 1)), nothing},
		{store(24, 4, 8), nothing},
	})
	ended(t, m, 8, api.OK)
}

// P7.1: where the copy tells of too little room, the head is asked, and told to others.
func TestHeadIsAsked(t *testing.T) {
	m := ringput.New(small, 2, row(3))
	follow(t, m, 64, []turn{
		{load(88), told(0)},
		{load(80), told(64)},
		{load(96), told(16)},
		{store(88, 8, 16), nothing},
		{cas(80, 64, 80), done},
	}, written(16, 2, row(3)))
	ended(t, m, 64, api.OK)
}

// P7.1: a ring is full where less than the need is left, to the byte, be it so by the copy or by the head.
func TestFull(t *testing.T) {
	for _, head := range []int64{0, 8, 15} {
		m := ringput.New(small, 2, row(8))
		follow(t, m, 0, []turn{{load(88), told(0)}, {load(80), told(64)}, {load(96), told(head)}})
		ended(t, m, 0, api.ErrFull)
	}
	for _, x := range []struct {
		tail, copied int64
		asked        bool
	}{
		{64, 16, false}, {64, 15, true}, {64, 17, false}, {48, 0, false}, {64, 64, false}, {64, 128, false},
		{0, 64, false}, {64, -64, true}, {0, -49, true}, {0, -48, false},
	} {
		m := ringput.New(small, 2, row(8))
		m.Take(told(x.copied))
		m.Take(told(x.tail))
		want := cas(80, x.tail, x.tail+16)
		if x.asked {
			want = load(96)
		}
		is(t, m, want)
	}
}

// P7.1: a record that doesn't fit ahead of the ring's end stands at its beginning, behind padding.
func TestPadding(t *testing.T) {
	m := ringput.New(small, 9, row(8))
	follow(t, m, 64, []turn{
		{load(88), told(16)},
		{load(80), told(56)},
		{cas(80, 56, 80), done},
		{store(72, 8, header(8, api.PadRecord)), nothing},
	}, written(16, 9, row(8)))
	ended(t, m, 64, api.OK)
}

// P7.1: ahead of the ring's end as many bytes as are needed are enough, and no padding is made.
func TestNoPadding(t *testing.T) {
	m := ringput.New(small, 9, row(8))
	follow(t, m, 48, []turn{
		{load(88), told(8)},
		{load(80), told(48)},
		{cas(80, 48, 64), done},
	}, written(64, 9, row(8)))
	ended(t, m, 48, api.OK)
}

// P7.1: the ring's beginning must have room, too: the head is asked where its copy tells of too little.
func TestPaddingAsksTheHead(t *testing.T) {
	begin := []turn{{load(88), told(8)}, {load(80), told(56)}}
	m := ringput.New(small, 9, row(8))
	follow(t, m, 64, begin, []turn{
		{load(96), told(16)},
		{store(88, 8, 16), nothing},
		{cas(80, 56, 80), done},
		{store(72, 8, header(8, api.PadRecord)), nothing},
	}, written(16, 9, row(8)))
	ended(t, m, 64, api.OK)
	for _, head := range []int64{8, 15, 0, 64, 72, -64, 128 + 15, math.MinInt64} {
		m := ringput.New(small, 9, row(8))
		follow(t, m, 0, begin, []turn{{load(96), told(head)}})
		ended(t, m, 0, api.ErrFull)
	}
}

// P7.1: both looks at the head in one try: for room at all, then for room at the beginning.
func TestHeadIsAskedTwice(t *testing.T) {
	begin := []turn{
		{load(88), told(-16)},
		{load(80), told(56)},
		{load(96), told(8)},
		{store(88, 8, 8), nothing},
	}
	m := ringput.New(small, 9, row(8))
	follow(t, m, 64, begin, []turn{
		{load(96), told(24)},
		{store(88, 8, 24), nothing},
		{cas(80, 56, 80), done},
		{store(72, 8, header(8, api.PadRecord)), nothing},
	})
	m = ringput.New(small, 9, row(8))
	follow(t, m, 0, begin, []turn{{load(96), told(8)}})
	ended(t, m, 0, api.ErrFull)
}

// P7.1: if another one was faster, it goes on from the tail again, with the head as it was told last.
func TestLostClaims(t *testing.T) {
	m := ringput.New(small, 3, row(8))
	follow(t, m, 128, []turn{
		{load(88), told(0)},
		{load(80), told(0)},
		{cas(80, 0, 16), told(16)},
		{load(80), told(32)},
		{cas(80, 32, 48), nothing},
		{load(80), told(64)},
		{load(96), told(40)},
		{store(88, 8, 40), nothing},
		{cas(80, 64, 80), told(64)},
		{load(80), told(88)},
		{cas(80, 88, 104), nothing},
		{load(80), told(120)},
		{load(96), told(104)},
		{store(88, 8, 104), nothing},
		{cas(80, 120, 144), nothing},
		{load(80), told(120)},
		{cas(80, 120, 144), done},
		{store(72, 8, header(8, api.PadRecord)), nothing},
	}, written(16, 3, row(8)))
	ended(t, m, 128, api.OK)
}

// P7.1: also a ring that gets full in between.
func TestFullAfterLostClaims(t *testing.T) {
	m := ringput.New(small, 3, row(8))
	follow(t, m, 0, []turn{
		{load(88), told(0)},
		{load(80), told(40)},
		{cas(80, 40, 56), told(48)},
		{load(80), told(48)},
		{cas(80, 48, 64), told(64)},
		{load(80), told(64)},
		{load(96), told(0)},
	})
	ended(t, m, 0, api.ErrFull)
}

// P7.1: numbers go round, and are held against each other with their signs; places aren't below 0.
func TestNumbersGoRound(t *testing.T) {
	const most, least = math.MaxInt64, math.MinInt64
	m := ringput.New(small, 5, row(8))
	follow(t, m, least, []turn{
		{load(88), told(most - 23)},
		{load(80), told(most - 7)},
		{cas(80, most-7, least+16), done},
		{store(72, 8, header(8, api.PadRecord)), nothing},
	}, written(16, 5, row(8)))
	ended(t, m, least, api.OK)

	m = ringput.New(small, 5, row(8))
	follow(t, m, least+24, []turn{
		{load(88), told(most - 7)},
		{load(80), told(least + 24)},
		{cas(80, least+24, least+40), done},
	}, written(40, 5, row(8)))
	ended(t, m, least+24, api.OK)

	m = ringput.New(small, 5, row(8))
	follow(t, m, -40, []turn{
		{load(88), told(-48)},
		{load(80), told(-40)},
		{cas(80, -40, -24), done},
		{store(40, 8, header(-16, 5)), nothing},
	})
	// The tail less the head is the least number here, and the ring's size less that goes round, to below 0.
	m = ringput.New(small, 5, row(8))
	follow(t, m, 0, []turn{{load(88), told(0)}, {load(80), told(least)}, {load(96), told(0)}})
	ended(t, m, 0, api.ErrFull)
}

// P7.1: whether a Cas was done is told by Done alone; what other answers carry beside counts for nothing.
func TestWhatIsTold(t *testing.T) {
	odd := func(v int64, done bool) api.Answer { return api.Answer{V: number(v), Done: done, B: row(5)} }
	m := ringput.New(small, 5, row(8))
	follow(t, m, 24, []turn{
		{load(88), odd(0, true)},
		{load(80), odd(16, true)},
		{cas(80, 16, 32), odd(16, false)},
		{load(80), odd(24, false)},
		{cas(80, 24, 40), odd(-9, true)},
		{store(40, 8, header(-16, 5)), odd(77, true)},
		{write(48, row(8)), odd(78, true)},
		{store(40, 4, 16), odd(79, true)},
	})
	ended(t, m, 24, api.OK)
}

// P7.1: a machine goes on though nobody asked it for its next access.
func TestTakeAlone(t *testing.T) {
	m := ringput.New(small, 5, row(8))
	for _, x := range []api.Answer{told(0), told(16), done, nothing} {
		m.Take(x)
	}
	is(t, m, write(40, row(8)))
	stands(t, m, 16, true)
}

// P7.1: what is handed in is neither kept nor changed, its spare room neither; what is answered is new memory.
func TestMemory(t *testing.T) {
	all := row(40)
	m := ringput.New(api.Ring{Base: 16, Size: 256}, 5, all[:20])
	if !bytes.Equal(all, row(40)) {
		t.Error(all)
	}
	clear(all)
	for _, x := range []api.Answer{told(0), told(0), done, nothing} {
		m.Take(x)
	}
	for _, want := range []api.Access{write(24, row(8)), write(32, row(16)[8:]), write(40, row(20)[16:])} {
		is(t, m, want)
		a, _ := m.Next()
		clear(append(a.B, 1, 2, 3))
		clear(a.B)
		is(t, m, want)
		m.Take(nothing)
	}
	if !bytes.Equal(all, make([]byte, 40)) {
		t.Error(all)
	}
}

// P7.1: machines don't depend on one another, those that were made of the same neither.
func TestMachinesAreTheirOwn(t *testing.T) {
	b := row(8)
	one, other := ringput.New(small, 5, b), ringput.New(small, 5, b)
	for _, x := range []api.Answer{told(0), told(32), done, nothing, nothing} {
		one.Take(x)
	}
	is(t, other, load(88))
	stands(t, other, 0, false)
	other.Take(told(0))
	other.Take(told(64))
	other.Take(told(0))
	ended(t, other, 0, api.ErrFull)
	is(t, one, store(48, 4, 16))
	one.Take(nothing)
	ended(t, one, 32, api.OK)
}

// ring is Put as the chapter's words stand, in the plainest way: ask does an access, and tells what it told.
type ring struct {
	api.Ring
	ask func(a api.Access) api.Answer
}

func (r ring) number(at int) int64 { return int64(r.ask(load(r.Base + r.Size + at)).V) }

func (r ring) store(at, n int, v uint64) { r.ask(store(r.Base+at, n, v)) }

func (r ring) place(position int64) int64 {
	size := int64(r.Size)
	return (position%size + size) % size
}

// put is what a machine must do; on is told the position once it is claimed.
func (r ring) put(typ int32, b []byte, on func(at int64)) api.Errno {
	size, need := int64(r.Size), int64(8+len(b))
	for need%8 != 0 {
		need++
	}
	head := r.number(8)
	var place, pad int64
	for {
		tail := r.number(0)
		if need > size-(tail-head) {
			head = r.number(16)
			if need > size-(tail-head) {
				return api.ErrFull
			}
			r.store(r.Size+8, 8, number(head))
		}
		place, pad = r.place(tail), 0
		gap := size - place
		if need > gap {
			pad = gap
		}
		if need > gap && need > r.place(head) {
			head = r.number(16)
			if need > r.place(head) {
				return api.ErrFull
			}
			r.store(r.Size+8, 8, number(head))
		}
		if r.ask(cas(r.Base+r.Size, tail, tail+need+pad)).Done {
			on(tail + pad)
			break
		}
	}
	if pad != 0 {
		r.store(int(place), 8, header(int32(pad), -1))
		place = 0
	}
	length := int32(8 + len(b))
	r.store(int(place), 8, header(-length, typ))
	for i := 0; i < len(b); i += 8 {
		r.ask(write(r.Base+int(place)+8+i, b[i:min(i+8, len(b))]))
	}
	r.store(int(place), 4, uint64(length))
	return api.OK
}

// chance tells numbers from 0 to below n, always the same ones for the same start.
type chance uint64

func (c *chance) below(n int) int {
	*c = *c*6364136223846793005 + 1442695040888963407
	return int(*c >> 33 % chance(n))
}

// answer is any answer: mostly numbers near one another, and near where they go round.
func (c *chance) answer(size int) api.Answer {
	near := []int64{0, 1 << 20, -64, math.MaxInt64, math.MinInt64, math.MaxInt32, -1 << 32}
	x := told(int64(c.below(4*size)) / 8 * 8)
	switch c.below(8) {
	case 0:
		x.V += number(near[c.below(len(near))])
	case 1:
		x.V = number(near[c.below(len(near))]) - uint64(c.below(200))
	case 2:
		x.V += uint64(c.below(8))
	case 3:
		x.B = row(c.below(10))
	}
	x.Done = c.below(3) != 0
	return x
}

// tired ends a model that has asked often enough.
type tired struct{}

// modelled is what a machine must do when it is told so many answers at most, and how it ends; busy, if it goes on behind them.
func modelled(r api.Ring, typ int32, b []byte, most int, tell func() api.Answer) (l []turn, at int64, e api.Errno) {
	defer func() {
		if x := recover(); x != nil {
			if _, ok := x.(tired); !ok {
				panic(x)
			}
			e = api.ErrBusy
		}
	}()
	ask := func(a api.Access) api.Answer {
		if len(l) == most {
			panic(tired{})
		}
		l = append(l, turn{a, tell()})
		return l[len(l)-1].x
	}
	e = ring{r, ask}.put(typ, b, func(p int64) { at = p })
	return l, at, e
}

// P7.1: whatever it is told: many machines against the model.
func TestAgainstModel(t *testing.T) {
	ends := map[api.Errno]int{}
	for start := range 20000 {
		c := chance(start)
		r := api.Ring{Base: 8 * c.below(100), Size: api.MinRing << c.below(4)}
		typ, b := int32(1+c.below(math.MaxInt32)), row(c.below(r.Size/8+1))
		// What is told may stay near one position, so that the ring is neither empty nor full.
		base := int64(c.below(3)-1) * int64(c.below(1<<30)) * 8
		tell := func() api.Answer {
			x := c.answer(r.Size)
			x.V += number(base)
			return x
		}
		l, at, e := modelled(r, typ, b, 100, tell)
		m := ringput.New(r, typ, b)
		claimed := false
		for i, x := range l {
			a, ok := m.Next()
			if !ok || !reflect.DeepEqual(plain(a), plain(x.a)) {
				t.Fatal(start, i, a, ok, "not", x.a)
			}
			if v, has := m.At(); has != claimed || claimed && v != at || !claimed && v != 0 {
				t.Fatal(start, i, v, has, "not", at, claimed)
			}
			if v, e := m.Result(); v != 0 || e != api.ErrBusy {
				t.Fatal(start, i, v, e)
			}
			m.Take(x.x)
			claimed = claimed || x.a.Kind == api.Cas && x.x.Done
		}
		ends[e]++
		if e == api.ErrBusy {
			continue
		}
		ended(t, m, at, e)
	}
	if ends[api.OK] < 1000 || ends[api.ErrFull] < 1000 {
		t.Error("too few of an end", ends)
	}
}

// fresh is a buffer for a ring, whose bytes are 0, to its last byte.
func fresh(t *testing.T, r api.Ring) *membuf.Buffer {
	t.Helper()
	b, e := membuf.New(r.Base + r.Size + ringput.RingTail)
	if e != api.OK {
		t.Fatal(e)
	}
	return b
}

// run does all of a machine's accesses, none of which is refused.
func run(t *testing.T, b *membuf.Buffer, m *ringput.Put) (int64, api.Errno) {
	t.Helper()
	for range 8 + api.MaxRing/8 {
		a, ok := m.Next()
		if !ok {
			return m.Result()
		}
		x, e := b.Do(a)
		if e != api.OK {
			t.Fatal(a, e)
		}
		m.Take(x)
	}
	t.Fatal("no end")
	return 0, 0
}

// set stores a ring's numbers.
func set(t *testing.T, b *membuf.Buffer, r api.Ring, tail, copied, head int64) {
	t.Helper()
	for i, v := range []int64{tail, copied, head} {
		if _, e := b.Do(store(r.Base+r.Size+8*i, 8, number(v))); e != api.OK {
			t.Fatal(e)
		}
	}
}

// record is a record's bytes.
func record(typ int32, b []byte) []byte {
	l := binary.LittleEndian.AppendUint32(nil, uint32(8+len(b)))
	l = append(binary.LittleEndian.AppendUint32(l, uint32(typ)), b...)
	for len(l)%8 != 0 {
		l = append(l, 0)
	}
	return l
}

// P7.2: the chapter's example.
func TestExample(t *testing.T) {
	r := api.Ring{Size: 64}
	b := fresh(t, r)
	if at, e := run(t, b, ringput.New(r, 1, row(8))); at != 0 || e != api.OK {
		t.Error(at, e)
	}
	if x, _ := b.Do(load(64)); x.V != 16 {
		t.Error(x.V)
	}
}

// P7.2: messages of any lengths, one behind the other, whole, till one has no room; nothing else is written, and a shorter one may have room then.
func TestAlone(t *testing.T) {
	for start := range 600 {
		c := chance(start)
		r := api.Ring{Base: 8 * c.below(10), Size: api.MinRing << c.below(8)}
		b := fresh(t, r)
		before := bytes.Repeat([]byte{200}, r.Base)
		for i := range before {
			b.Do(write(i, before[i:i+1]))
		}
		var want []byte
		for refused := 0; refused < 5; {
			typ, l := int32(1+c.below(1<<31-1)), row(c.below(r.Size/8+1))
			x := record(typ, l)
			at, e := run(t, b, ringput.New(r, typ, l))
			if len(want)+len(x) > r.Size {
				if at != 0 || e != api.ErrFull {
					t.Fatal(start, at, e, "not full")
				}
				refused++
				continue
			}
			if at != int64(len(want)) || e != api.OK {
				t.Fatal(start, at, e, "not", len(want))
			}
			want = append(want, x...)
		}
		all := append(before, want...)
		all = append(all, make([]byte, r.Size-len(want))...)
		all = binary.LittleEndian.AppendUint64(all, uint64(len(want)))
		all = append(all, make([]byte, 24)...)
		if !bytes.Equal(b.Bytes(), all) {
			t.Fatal(start, b.Bytes(), "not", all)
		}
	}
}

// P7.2: as many as have room: of the shortest and of the longest messages, in each ring.
func TestAsManyAsHaveRoom(t *testing.T) {
	for size := api.MinRing; size <= api.MaxRing; size *= 2 {
		r := api.Ring{Base: api.MaxBuffer - size - ringput.RingTail, Size: size}
		for _, n := range []int{0, 1, 7, 8, size / 8} {
			b, need := fresh(t, r), 8+(n+7)/8*8
			for i := range size / need {
				if at, e := run(t, b, ringput.New(r, 1, row(n))); at != int64(i*need) || e != api.OK {
					t.Fatal(size, n, i, at, e)
				}
			}
			was := b.Bytes()
			for range 3 {
				if at, e := run(t, b, ringput.New(r, 1, row(n))); at != 0 || e != api.ErrFull {
					t.Fatal(size, n, at, e)
				}
			}
			if !bytes.Equal(b.Bytes(), was) {
				t.Error(size, n, "what was refused left something")
			}
			want := bytes.Repeat(record(1, row(n)), size/need)
			if !bytes.Equal(was[r.Base:][:len(want)], want) {
				t.Error(size, n, was[r.Base:])
			}
		}
	}
}

// P7.2: a ring that is drained in between goes on round and round, with padding where a record doesn't fit; also where its positions go round.
func TestRoundAndRound(t *testing.T) {
	r := api.Ring{Base: 8, Size: 64}
	for _, from := range []int64{0, 64, -128, math.MaxInt64 - 63, -64} {
		b := fresh(t, r)
		set(t, b, r, from, from, from)
		tail, padded := from, 0
		for i := range 60 {
			l := row(i * 5 % 9)
			x := record(3, l)
			at, e := run(t, b, ringput.New(r, 3, l))
			if place := int((tail%64 + 64) % 64); place+len(x) > 64 {
				pad := b.Bytes()[8+place:][:8]
				if want := header(int32(64-place), api.PadRecord); binary.LittleEndian.Uint64(pad) != want {
					t.Fatal(from, i, pad)
				}
				tail += int64(64 - place)
				padded++
			}
			if at != tail || e != api.OK {
				t.Fatal(from, i, at, e, "not", tail)
			}
			if got := b.Bytes()[8+(tail%64+64)%64:][:len(x)]; !bytes.Equal(got, x) {
				t.Fatal(from, i, got, "not", x)
			}
			tail += int64(len(x))
			if x, _ := b.Do(load(72)); x.V != number(tail) {
				t.Fatal(from, i, x.V, tail)
			}
			// Who drains leaves bytes that are 0, and moves the head alone.
			for at := 8; at < 72; at += 8 {
				b.Do(write(at, make([]byte, 8)))
			}
			b.Do(store(88, 8, number(tail)))
		}
		if padded < 3 {
			t.Error(from, "padding was made", padded, "times")
		}
	}
}

// P7.1: many put at once: each that ends with OK has its own place, and stands there whole.
func TestManyAtOnce(t *testing.T) {
	for start := range 500 {
		c := chance(start)
		r := api.Ring{Base: 16, Size: api.MinRing << c.below(3)}
		b := fresh(t, r)
		var puts []*ringput.Put
		var want [][]byte
		var actors []sched.Machine
		for i := range 2 + c.below(7) {
			l := row(c.below(r.Size/8 + 1))
			m := ringput.New(r, int32(i+1), l)
			puts, want, actors = append(puts, m), append(want, record(int32(i+1), l)), append(actors, m)
		}
		w := sched.New(b, actors)
		for range 40 * len(puts) {
			w.Pick(api.Pick{Actor: c.below(len(puts))})
		}
		w.Robin(1 << 16)
		all, sum := make([]byte, r.Size), 0
		for i, m := range puts {
			at, e := m.Result()
			if e == api.ErrFull {
				continue
			}
			if e != api.OK || at+int64(len(want[i])) > int64(r.Size) || !bytes.Equal(all[at:][:len(want[i])], make([]byte, len(want[i]))) {
				t.Fatal(start, i, at, e)
			}
			copy(all[at:], want[i])
			sum += len(want[i])
		}
		if tail, _ := b.Do(load(r.Base + r.Size)); tail.V != uint64(sum) || !bytes.Equal(b.Bytes()[r.Base:][:r.Size], all) {
			t.Fatal(start, tail, sum, b.Bytes(), "not", all)
		}
	}
}
