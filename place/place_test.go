package place_test

import (
	"encoding/binary"
	"math"
	"testing"

	"millstream/api"
	"millstream/place"
)

// sizes are all that a term may have.
func sizes() []int64 { return []int64{256, 512, 1024, 2048, 4096, 8192} }

// noSizes are ones that no term may have: powers that are too small or too great, and what is no power.
func noSizes() []int64 {
	l := []int64{0, 1, 2, 32, 64, 128, 16384, 32768, 1 << 31, 1 << 32, 1 << 62, 3, 255, 257, 300, 384, 8191, 8193, 12288}
	return append(l, -1, -256, -8192, math.MinInt64, math.MinInt64+256, math.MaxInt64, 1<<32+256)
}

// initials are first terms from which numbers go on, and ones from which they go round.
func initials() []int32 {
	return []int32{0, 1, -1, 5, -5, 1 << 16, 0x01020304, math.MaxInt32, math.MaxInt32 - 1, math.MinInt32, math.MinInt32 + 1}
}

// counts are ones that a term may have, the ends among them.
func counts() []int64 {
	return []int64{0, 1, 2, 3, 4, 255, 256, 65535, 65536, 1 << 24, 1<<30 - 1, 1 << 30, math.MaxInt32 - 1, math.MaxInt32}
}

// round is the number of four bytes that a number goes round to, told without a conversion.
func round(n int64) int32 {
	for n > math.MaxInt32 {
		n -= 1 << 32
	}
	for n < math.MinInt32 {
		n += 1 << 32
	}
	return int32(n)
}

// P4.1
func TestIsTerm(t *testing.T) {
	for _, size := range sizes() {
		if !place.IsTerm(size) {
			t.Error("no term", size)
		}
	}
	for _, size := range noSizes() {
		if place.IsTerm(size) {
			t.Error("a term", size)
		}
	}
}

// P4.1: of all sizes up to beyond the greatest.
func TestIsTermOfAll(t *testing.T) {
	next := int64(256)
	for size := int64(-300); size < 40000; size++ {
		want := size == next && size <= 8192
		if want {
			next *= 2
		}
		if place.IsTerm(size) != want {
			t.Fatal(size, want)
		}
	}
}

// P4.1
func TestCount(t *testing.T) {
	for _, x := range []struct {
		term, initial int32
		want          uint32
	}{
		{7, 5, 2}, {5, 5, 0}, {0, 0, 0}, {-1, -1, 0}, {2, -3, 5}, {-3, -5, 2},
		{5, 7, math.MaxUint32 - 1}, {-1, 0, math.MaxUint32}, {0, 1, math.MaxUint32},
		{math.MaxInt32, 0, math.MaxInt32}, {math.MinInt32, 0, 1 << 31}, {math.MinInt32, math.MaxInt32, 1},
		{math.MinInt32 + 4, math.MaxInt32 - 5, 10}, {math.MaxInt32, math.MinInt32, math.MaxUint32},
		{-1, math.MinInt32, math.MaxInt32}, {0, math.MinInt32, 1 << 31}, {math.MinInt32, math.MinInt32, 0},
	} {
		if v := place.Count(x.term, x.initial); v != x.want {
			t.Error(x, v)
		}
	}
}

// P4.1: the next term's count is one more, also where the numbers go round.
func TestCountsRise(t *testing.T) {
	for _, initial := range initials() {
		for n := range int64(1000) {
			if v := place.Count(round(int64(initial)+n), initial); int64(v) != n {
				t.Fatal(initial, n, v)
			}
		}
	}
}

// P4.1
func TestPosition(t *testing.T) {
	for _, x := range []struct {
		term, initial      int32
		offset, size, want int64
	}{
		{7, 5, 32, 256, 544}, {5, 5, 0, 256, 0}, {5, 5, 256, 256, 256}, {6, 5, 0, 256, 256}, {5, 5, 255, 256, 255},
		{5, 5, 1, 256, 1}, {2, -3, 100, 8192, 41060}, {-1, -1, 8192, 8192, 8192},
		{math.MinInt32, math.MaxInt32, 32, 512, 544}, {math.MinInt32 + 1, math.MaxInt32, 0, 1024, 2048},
		{math.MaxInt32, 0, 0, 256, 549755813632}, {math.MaxInt32, 0, 256, 256, 549755813888},
		{math.MaxInt32, 0, 0, 8192, 17592186036224}, {math.MaxInt32, 0, 8191, 8192, 17592186044415},
		{math.MaxInt32, 0, 8192, 8192, 17592186044416}, {-1, math.MinInt32, 8192, 8192, 17592186044416},
		{4, 5 + math.MinInt32, 31, 256, 549755813663},
	} {
		if v, e := place.Position(x.term, x.initial, x.offset, x.size); v != x.want || e != api.OK {
			t.Error(x, v, e)
		}
	}
}

// P4.1
func TestPositionRefuses(t *testing.T) {
	refused := func(term, initial int32, offset, size int64) {
		if v, e := place.Position(term, initial, offset, size); v != 0 || e != api.ErrArg {
			t.Error(term, initial, offset, size, v, e)
		}
	}
	for _, size := range noSizes() {
		for _, offset := range []int64{0, 32, size} {
			refused(7, 5, offset, size)
			refused(4, 5, offset, size)
		}
	}
	for _, size := range sizes() {
		for _, offset := range []int64{-1, -32, -size, math.MinInt64, size + 1, size + 32, 2 * size, 1 << 32, math.MaxInt64} {
			refused(7, 5, offset, size)
			refused(4, 5, offset, size)
		}
		for _, initial := range initials() {
			for _, count := range []int64{1 << 31, 1<<31 + 1, 3 << 30, 1<<32 - 2, 1<<32 - 1} {
				refused(round(int64(initial)+count), initial, 0, size)
				refused(round(int64(initial)+count), initial, 32, size)
				refused(round(int64(initial)+count), initial, size, size)
			}
		}
	}
}

// P4.1
func TestMaxPosition(t *testing.T) {
	for _, x := range []struct{ size, want int64 }{
		{256, 549755813888}, {512, 1099511627776}, {1024, 2199023255552}, {2048, 4398046511104},
		{4096, 8796093022208}, {8192, 17592186044416},
	} {
		if v := place.MaxPosition(x.size); v != x.want {
			t.Error(x, v)
		}
	}
	for _, size := range noSizes() {
		if v := place.MaxPosition(size); v != 0 {
			t.Error(size, v)
		}
	}
}

// P4.1
func TestTermAndOffset(t *testing.T) {
	for _, x := range []struct {
		position int64
		initial  int32
		size     int64
		term     int32
		offset   int64
	}{
		{544, 5, 256, 7, 32}, {0, 5, 256, 5, 0}, {255, 5, 256, 5, 255}, {256, 5, 256, 6, 0}, {257, 5, 256, 6, 1},
		{0, -1, 8192, -1, 0}, {8191, -1, 8192, -1, 8191}, {8192, -1, 8192, 0, 0}, {41060, -3, 8192, 2, 100},
		{511, math.MaxInt32, 512, math.MaxInt32, 511}, {512, math.MaxInt32, 512, math.MinInt32, 0},
		{2049, math.MaxInt32, 1024, math.MinInt32 + 1, 1},
		{549755813887, 0, 256, math.MaxInt32, 255}, {549755813887, 1, 256, math.MinInt32, 255},
		{549755813887, math.MaxInt32, 256, -2, 255}, {549755813887, math.MinInt32, 256, -1, 255},
		{17592186044415, 5, 8192, math.MinInt32 + 4, 8191}, {17592186036224, 5, 8192, math.MinInt32 + 4, 0},
		{17592186036223, 5, 8192, math.MinInt32 + 3, 8191},
	} {
		if v, e := place.Term(x.position, x.initial, x.size); v != x.term || e != api.OK {
			t.Error("term", x, v, e)
		}
		if v, e := place.Offset(x.position, x.size); v != x.offset || e != api.OK {
			t.Error("offset", x, v, e)
		}
	}
}

// P4.1
func TestTermAndOffsetRefuse(t *testing.T) {
	refused := func(position, size int64) {
		for _, initial := range []int32{0, 5, -5, math.MaxInt32, math.MinInt32} {
			if v, e := place.Term(position, initial, size); v != 0 || e != api.ErrArg {
				t.Error("term", position, initial, size, v, e)
			}
		}
		if v, e := place.Offset(position, size); v != 0 || e != api.ErrArg {
			t.Error("offset", position, size, v, e)
		}
	}
	for _, size := range noSizes() {
		for _, position := range []int64{0, 1, 32, 544, -1, 1 << 39, math.MaxInt64, math.MinInt64} {
			refused(position, size)
		}
	}
	for _, size := range sizes() {
		end := size << 31
		for _, position := range []int64{-1, -32, -size, math.MinInt64, end, end + 1, end + size, 2 * end, math.MaxInt64} {
			refused(position, size)
		}
	}
}

// P4.1
func TestPart(t *testing.T) {
	want := 0
	for count := range uint32(1000) {
		if v := place.Part(count); v != want {
			t.Fatal(count, v, want)
		}
		want++
		if want == 3 {
			want = 0
		}
	}
	for _, x := range []struct {
		count uint32
		want  int
	}{
		{math.MaxInt32 - 1, 0}, {math.MaxInt32, 1}, {1 << 31, 2}, {1<<31 + 1, 0}, {math.MaxUint32 - 1, 2}, {math.MaxUint32, 0},
	} {
		if v := place.Part(x.count); v != x.want {
			t.Error(x, v)
		}
	}
}

// P4.1
func TestPack(t *testing.T) {
	for _, x := range []struct {
		term   int32
		offset uint32
		want   uint64
	}{
		{0, 0, 0}, {1, 0, 1 << 32}, {0, 1, 1}, {7, 32, 0x0000000700000020}, {0x01020304, 0x05060708, 0x0102030405060708},
		{-1, 0, 0xffffffff00000000}, {0, math.MaxUint32, 0x00000000ffffffff}, {-1, math.MaxUint32, math.MaxUint64},
		{-2, 3, 0xfffffffe00000003}, {math.MinInt32, 0, 1 << 63}, {math.MaxInt32, 1 << 31, 0x7fffffff80000000},
		{math.MinInt32, math.MaxInt32, 0x800000007fffffff},
	} {
		if v := place.Pack(x.term, x.offset); v != x.want {
			t.Errorf("%d %d: %#x, not %#x", x.term, x.offset, v, x.want)
		}
		if term, offset := place.Unpack(x.want); term != x.term || offset != x.offset {
			t.Errorf("%#x: %d %d", x.want, term, offset)
		}
	}
}

// P4.1: a raw tail, byte by byte, and each of its bits alone; what is made tells what it was made of.
func TestUnpack(t *testing.T) {
	for i := range 64 {
		for _, raw := range []uint64{1 << i, ^uint64(1 << i), 1<<i - 1} {
			b := binary.BigEndian.AppendUint64(nil, raw)
			term, offset := place.Unpack(raw)
			if uint32(term) != binary.BigEndian.Uint32(b) || offset != binary.BigEndian.Uint32(b[4:]) {
				t.Errorf("%#x: %d %d", raw, term, offset)
			}
			if v := place.Pack(term, offset); v != raw {
				t.Errorf("%#x: %#x", raw, v)
			}
		}
	}
}

// P4.2
func TestTermAndOffsetMakeThePositionAgain(t *testing.T) {
	check := func(position int64, initial int32, size int64) {
		term, e1 := place.Term(position, initial, size)
		offset, e2 := place.Offset(position, size)
		v, e3 := place.Position(term, initial, offset, size)
		if v != position || offset < 0 || offset >= size || e1 != api.OK || e2 != api.OK || e3 != api.OK {
			t.Error(position, initial, size, term, offset, v, e1, e2, e3)
		}
	}
	for _, size := range sizes() {
		for _, initial := range initials() {
			for _, count := range counts() {
				for _, offset := range []int64{0, 1, 31, 32, size / 2, size - 32, size - 1} {
					check(count*size+offset, initial, size)
				}
			}
		}
		for position := range 5 * size {
			check(position, math.MaxInt32-1, size)
		}
	}
}

// P4.2: and a position tells the term and the offset that it was made of.
func TestPositionTellsItsTermAndOffset(t *testing.T) {
	for _, size := range sizes() {
		for _, initial := range initials() {
			for _, count := range counts() {
				term := round(int64(initial) + count)
				for _, offset := range []int64{0, 1, 31, 32, size / 2, size - 32, size - 1} {
					position, e := place.Position(term, initial, offset, size)
					if position != count*size+offset || e != api.OK {
						t.Error(term, initial, offset, size, position, e)
					}
					if v, e := place.Term(position, initial, size); v != term || e != api.OK {
						t.Error(position, initial, size, v, e, term)
					}
					if v, e := place.Offset(position, size); v != offset || e != api.OK {
						t.Error(position, size, v, e, offset)
					}
				}
			}
		}
	}
}

// P4.2: the end of a term is where the next one begins.
func TestEndOfATermBeginsTheNext(t *testing.T) {
	for _, size := range sizes() {
		for _, initial := range initials() {
			for _, count := range counts() {
				position, e := place.Position(round(int64(initial)+count), initial, size, size)
				if position != (count+1)*size || e != api.OK {
					t.Error(initial, count, size, position, e)
				}
				term, e := place.Term(position, initial, size)
				if count == math.MaxInt32 {
					if position != place.MaxPosition(size) || term != 0 || e != api.ErrArg {
						t.Error(initial, size, position, term, e)
					}
				} else if term != round(int64(initial)+count+1) || e != api.OK {
					t.Error(initial, count, size, term, e)
				}
			}
		}
	}
}
