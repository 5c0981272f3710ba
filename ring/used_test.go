package ring_test

import (
	"bytes"
	"encoding/binary"
	"math"
	"slices"
	"testing"

	"millstream/api"
	"millstream/ring"
	"millstream/ringget"
	"millstream/ringput"
)

// record is a record's header that stands at a place.
type record struct {
	place       int
	length, typ int32
}

// image is a buffer's bytes, as few as may be: a ring, whose head and tail are told, and records in it.
func image(r api.Ring, head, tail int64, l ...record) []byte {
	b := make([]byte, r.Base+r.Size+24)
	binary.LittleEndian.PutUint64(b[r.Base+r.Size:], uint64(tail))
	binary.LittleEndian.PutUint64(b[r.Base+r.Size+16:], uint64(head))
	for _, x := range l {
		binary.LittleEndian.PutUint64(b[r.Base+x.place:], header(x.length, x.typ))
	}
	return b
}

// uses asks how much is used, and that the bytes aren't changed.
func uses(t *testing.T, b []byte, r api.Ring, want int, e api.Errno) {
	t.Helper()
	was := bytes.Clone(b)
	if n, f := ring.Used(b, r); n != want || f != e {
		t.Fatal(n, f, "not", want, e)
	}
	if !bytes.Equal(b, was) {
		t.Fatal("changed")
	}
}

// P10.1: a ring that may not be, and one that doesn't stand in the buffer with its numbers, is refused.
func TestUsedRefused(t *testing.T) {
	for _, r := range bad {
		uses(t, make([]byte, api.MaxBuffer), r, 0, api.ErrArg)
		uses(t, nil, r, 0, api.ErrArg)
	}
	for _, r := range []api.Ring{small, {Size: 64}, {Base: 8, Size: 8192}, {Base: api.MaxBuffer - 64 - 32, Size: 64}} {
		all := image(r, 0, 16, record{0, 16, 1})
		uses(t, all, r, 16, api.OK)
		for _, n := range []int{0, 1, r.Base, r.Base + r.Size, r.Base + r.Size + 8, r.Base + r.Size + 16, len(all) - 8, len(all) - 1} {
			uses(t, all[:n], r, 0, api.ErrArg)
		}
		uses(t, append(all, 1), r, 16, api.OK)
		uses(t, append(all, row(1000)...), r, 16, api.OK)
	}
	// It is refused for that, though its numbers are odd.
	b := image(small, 16, 0)
	uses(t, b[:len(b)-1], small, 0, api.ErrArg)
	uses(t, b, small, 0, api.ErrOdd)
}

// P10.1: head and tail aren't more than the ring's size apart, nor the head ahead of the tail; they go round.
func TestUsedApart(t *testing.T) {
	const most, least = math.MaxInt64, math.MinInt64
	for _, head := range []int64{0, 8, 64, -64, -8, 1 << 40, most - 7, most - 63, least, least + 8} {
		place := int((head%64 + 64) % 64)
		uses(t, image(small, head, head), small, 0, api.OK)
		uses(t, image(small, head, head, record{place, 7, 1}), small, 0, api.OK)
		uses(t, image(small, head, head+64), small, 0, api.OK)
		uses(t, image(small, head, head+64, record{place, 8, 1}), small, 8, api.OK)
		for _, d := range []int64{65, 72, 128, most, least, -1, -8, -64, 1 << 32} {
			uses(t, image(small, head, head+d, record{place, 8, 1}), small, 0, api.ErrOdd)
		}
	}
}

// P10.1: records and padding count, one behind the other, filled up to a multiple of 8, up to where a length is below 1, or to the tail.
func TestUsedWhole(t *testing.T) {
	l := []record{{0, 13, 5}, {16, 8, -1}, {24, 8, 0}, {32, 24, math.MinInt32}, {56, 8, math.MaxInt32}}
	ends := []int{0, 16, 24, 32, 56, 64}
	for i, end := range ends {
		uses(t, image(small, 0, int64(end), l...), small, end, api.OK)
		for _, n := range []int32{0, -1, -8, -13, math.MinInt32} {
			if i < len(l) {
				// What stands behind it counts for nothing, be it odd.
				odd := append(slices.Clone(l[:i]), record{l[i].place, n, 1})
				uses(t, image(small, 0, 64, append(odd, l[i+1:]...)...), small, end, api.OK)
				uses(t, image(small, 0, 64, append(odd, record{56, 7, 1})[:i+1]...), small, end, api.OK)
			}
		}
	}
}

// P10.1: from the ring's end it goes on at its beginning.
func TestUsedGoesOn(t *testing.T) {
	l := []record{{48, 10, 5}, {0, 8, 6}, {8, 16, -1}, {24, 24, 7}}
	for _, x := range []struct{ tail, used int }{{64, 16}, {72, 24}, {88, 40}, {112, 64}} {
		for _, round := range []int64{0, 1 << 40, -64, -128, math.MaxInt64 - 127, math.MinInt64} {
			uses(t, image(small, round+48, round+int64(x.tail), l...), small, x.used, api.OK)
		}
	}
	uses(t, image(small, 48, 104, l...), small, 0, api.ErrOdd)
	l[1].length = -8
	uses(t, image(small, 48, 112, l...), small, 16, api.OK)
	l[1].length = 3
	uses(t, image(small, 48, 112, l...), small, 0, api.ErrOdd)
}

// P10.1: a length of 1 to 7 is odd, wherever it stands ahead of the tail.
func TestUsedOddLength(t *testing.T) {
	for n := int32(1); n < 8; n++ {
		for _, typ := range []int32{1, -1, 0} {
			uses(t, image(small, 0, 16, record{0, n, typ}), small, 0, api.ErrOdd)
			uses(t, image(small, 0, 64, record{0, 16, 1}, record{16, n, typ}), small, 0, api.ErrOdd)
			uses(t, image(small, 0, 16, record{0, 16, 1}, record{16, n, typ}), small, 16, api.OK)
		}
	}
}

// P10.1: a size that passes the tail, or the ring's end, is odd; up to there it isn't.
func TestUsedPasses(t *testing.T) {
	for _, n := range []int32{17, 24, 65, math.MaxInt32 - 7, math.MaxInt32} {
		for _, typ := range []int32{1, -1} {
			uses(t, image(small, 0, 16, record{0, n, typ}), small, 0, api.ErrOdd)
			uses(t, image(small, 48, 80, record{48, n, typ}), small, 0, api.ErrOdd)
		}
	}
	for _, n := range []int32{9, 15, 16} {
		uses(t, image(small, 0, 16, record{0, n, 1}), small, 16, api.OK)
		uses(t, image(small, 48, 80, record{48, n, -1}), small, 16, api.OK)
	}
	uses(t, image(small, 0, 64, record{0, 64, -1}), small, 64, api.OK)
	uses(t, image(small, 0, 64, record{0, 65, -1}), small, 0, api.ErrOdd)
	// The tail stands between two multiples of 8.
	uses(t, image(small, 0, 12, record{0, 8, 1}), small, 8, api.OK)
	uses(t, image(small, 0, 12, record{0, 8, 1}, record{8, 8, 1}), small, 0, api.ErrOdd)
	uses(t, image(small, 0, 7, record{0, 1, 1}), small, 0, api.ErrOdd)
}

// P10.1: a head that is no multiple of 8 is taken as it stands; of a header that goes over the ring's end the bytes behind it count.
func TestUsedBetween(t *testing.T) {
	uses(t, image(small, 5, 21, record{5, 16, 1}), small, 16, api.OK)
	uses(t, image(small, 45, 61, record{45, 9, 1}), small, 16, api.OK)
	uses(t, image(small, 45, 61+64, record{45, 9, 1}), small, 0, api.ErrOdd)
	// Of a header at 61 the length's last byte is the tail's first one: what stands at the ring's beginning counts for nothing.
	for _, first := range []byte{0, 255} {
		b := image(small, 61, 66)
		b[16] = first
		uses(t, b, small, 0, api.ErrOdd) // a length of 66 times 2^24
		b = image(small, 125, 128)
		b[16], b[16+61] = first, 8
		uses(t, b, small, 0, api.OK) // one below 0
		b = image(small, 253, 256)
		b[16] = first
		uses(t, b, small, 0, api.OK)
		b[16+61] = 8
		uses(t, b, small, 0, api.ErrOdd) // a size that passes the ring's end
	}
}

// used is what Used must answer, in the plainest way: of a ring and a buffer that may be.
func used(b []byte, r api.Ring) (int, api.Errno) {
	at := func(place int) uint64 { return binary.LittleEndian.Uint64(b[r.Base+place:]) }
	head, tail := int64(at(r.Size+16)), int64(at(r.Size))
	n := tail - head
	if n < 0 || n > int64(r.Size) {
		return 0, api.ErrOdd
	}
	place := int((head%int64(r.Size) + int64(r.Size)) % int64(r.Size))
	sum := 0
	for sum < int(n) {
		length := int(int32(at(place)))
		if length < 1 {
			break
		}
		size := (length + 7) / 8 * 8
		if length < 8 || place+size > r.Size || sum+size > int(n) {
			return 0, api.ErrOdd
		}
		sum += size
		place += size
		if place == r.Size {
			place = 0
		}
	}
	return sum, api.OK
}

// P10.1: many buffers, most of them with records that fit, against the plain way.
func TestUsedAgainstModel(t *testing.T) {
	var ends [3]int
	for start := range 20000 {
		c := chance(start)
		r := api.Ring{Base: 8 * c.below(5), Size: api.MinRing << c.below(3)}
		near := []int64{0, 0, 1 << 20, -64, math.MaxInt64 - 100, math.MinInt64}[c.below(6)]
		head := near/8*8 + int64(8*c.below(r.Size/4))
		if c.below(10) == 0 {
			head += int64(c.below(8))
		}
		tail := head + int64(8*c.below(r.Size/8+1))
		if c.below(10) == 0 {
			tail += int64(c.below(20) - 10)
		}
		b := image(r, head, tail)
		for p := head; p-tail < 0; {
			place := int((p%int64(r.Size) + int64(r.Size)) % int64(r.Size))
			n := int32(8 + c.below(min(r.Size-place, 20)))
			if c.below(12) == 0 {
				n = []int32{0, -9, 5, int32(r.Size), math.MaxInt32}[c.below(5)]
			}
			binary.LittleEndian.PutUint32(b[r.Base+place:], uint32(n))
			p += max(8, int64(n+7)/8*8)
		}
		want, e := used(b, r)
		uses(t, b, r, want, e)
		switch {
		case e != api.OK:
			ends[0]++
		case want > 0 && int64(want) == tail-head:
			ends[1]++
		default:
			ends[2]++
		}
	}
	if slices.Min(ends[:]) < 1000 {
		t.Error("too few of an end", ends)
	}
}

// P10.1: what was put whole is used, one put that isn't whole ends it, and what was taken is none any more.
func TestUsedOfPuts(t *testing.T) {
	b := fresh(t, small, 0)
	uses(t, b.Bytes(), small, 0, api.OK)
	run(t, b, ring.Fill(small, []api.Message{message(1, 3), message(2, 0)}, 0))
	uses(t, b.Bytes(), small, 24, api.OK)
	p := ringput.New(small, 3, row(8))
	for n := 0; goOn(t, b, p); n++ {
		if _, ok := p.Next(); !ok {
			break
		}
		uses(t, b.Bytes(), small, 24, api.OK)
	}
	uses(t, b.Bytes(), small, 40, api.OK)
	g := ringget.New(small, 1)
	run(t, b, g)
	uses(t, b.Bytes(), small, 24, api.OK)
	// One over the ring's end, with 8 bytes of padding ahead of it.
	run(t, b, ring.Fill(small, []api.Message{message(4, 8), message(5, 8)}, 0))
	uses(t, b.Bytes(), small, 24+16+8+16, api.OK)
	run(t, b, ring.Drain(small, 2, 9))
	uses(t, b.Bytes(), small, 0, api.OK)
}
