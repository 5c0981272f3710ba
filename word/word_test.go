package word_test

import (
	"math"
	"slices"
	"testing"

	"millstream/api"
	"millstream/word"
)

const greatest = int64(1) << 62

// lengths are those around which chunks change, and the ends of what may be.
func lengths() []int {
	return []int{1, 2, 7, 8, 9, 15, 16, 17, 63, 64, 65, 1000, 4096, api.MaxBuffer - 8, api.MaxBuffer - 1, api.MaxBuffer}
}

// numbers are ones whose bytes all differ, and the ends of what a word holds.
func numbers() []uint64 {
	l := []uint64{0, 1, 255, 256, 258, 0x0102030405060708, 0xf1f2f3f4f5f6f7f8, math.MaxInt64, 1 << 63, math.MaxUint64}
	for i := range 64 {
		l = append(l, 1<<i)
	}
	return l
}

// P1.1
func TestPowers(t *testing.T) {
	for k := range 63 {
		n := int64(1) << k
		if !word.IsPower(n) {
			t.Error("no power", n)
		}
		if got, ok := word.Log2(n); got != k || !ok {
			t.Error("Log2", n, got, ok)
		}
	}
}

// P1.1
func TestNoPowers(t *testing.T) {
	l := []int64{0, -1, -2, -8, math.MinInt64, math.MinInt64 + 1, -greatest, math.MaxInt64, 3, 6, 100}
	for k := 2; k < 63; k++ {
		n := int64(1) << k
		l = append(l, n-1, n+1, n+n/2, -n)
	}
	for _, n := range l {
		if word.IsPower(n) {
			t.Error("a power", n)
		}
		if got, ok := word.Log2(n); got != 0 || ok {
			t.Error("Log2", n, got, ok)
		}
	}
}

// P1.1
func TestAlign(t *testing.T) {
	for _, x := range []struct{ n, to, want int64 }{
		{33, 32, 64}, {0, 8, 0}, {1, 8, 8}, {7, 8, 8}, {8, 8, 8}, {9, 8, 16},
		{0, 1, 0}, {5, 1, 5}, {greatest, 1, greatest}, {greatest - 1, 1, greatest - 1},
		{0, greatest, 0}, {1, greatest, greatest}, {greatest - 1, greatest, greatest}, {greatest, greatest, greatest},
		{greatest - 1, 8, greatest}, {greatest - 8, 8, greatest - 8}, {greatest, 32, greatest},
	} {
		if v, e := word.Align(x.n, x.to); v != x.want || e != api.OK {
			t.Error(x, v, e)
		}
	}
}

// P1.1
func TestAlignIsLeast(t *testing.T) {
	for k := range 10 {
		to := int64(1) << k
		for n := range int64(600) {
			v, e := word.Align(n, to)
			if e != api.OK || v%to != 0 || v < n || v-n >= to {
				t.Fatal(n, to, v, e)
			}
		}
	}
}

// P1.1
func TestAlignRefuses(t *testing.T) {
	for _, x := range []struct{ n, to int64 }{
		{5, 0}, {5, 3}, {5, 6}, {5, -1}, {5, -8}, {5, math.MinInt64}, {5, math.MaxInt64}, {5, greatest - 1}, {5, greatest + 1},
		{-1, 8}, {-8, 8}, {-1, 1}, {-1, greatest}, {math.MinInt64, 8}, {-greatest, greatest},
		{greatest + 1, 1}, {greatest + 1, 8}, {greatest + 1, greatest}, {math.MaxInt64, 1}, {math.MaxInt64, greatest},
		{-1, 3}, {greatest + 1, 3}, {0, 0},
	} {
		if v, e := word.Align(x.n, x.to); v != 0 || e != api.ErrArg {
			t.Error(x, v, e)
		}
	}
}

// P1.1
func TestMask(t *testing.T) {
	for _, x := range []struct{ n, to, want int64 }{
		{0, 8, 0}, {5, 8, 5}, {8, 8, 0}, {17, 8, 1}, {12345, 1, 0}, {-1, 1, 0},
		{-1, 8, 7}, {-8, 8, 0}, {-9, 8, 7}, {-1, greatest, greatest - 1},
		{greatest, greatest, 0}, {greatest + 3, greatest, 3}, {math.MaxInt64, greatest, greatest - 1},
		{math.MinInt64, greatest, 0}, {math.MinInt64 + 1, greatest, 1}, {math.MinInt64, 1, 0},
		{5, 0, 0}, {5, 3, 0}, {5, 6, 0}, {5, -1, 0}, {5, -8, 0}, {-5, 3, 0}, {5, math.MinInt64, 0}, {5, math.MaxInt64, 0},
	} {
		if v := word.Mask(x.n, x.to); v != x.want {
			t.Error(x, v)
		}
	}
}

// P1.1
func TestMaskIsWhatIsLeft(t *testing.T) {
	for k := range 8 {
		to := int64(1) << k
		for n := int64(-300); n <= 300; n++ {
			if v := word.Mask(n, to); v < 0 || v >= to || (n-v)%to != 0 {
				t.Fatal(n, to, v)
			}
		}
	}
}

// P1.1
func TestBytes(t *testing.T) {
	if b := word.Bytes(258, 2); !slices.Equal(b, []byte{2, 1}) {
		t.Error(b)
	}
	whole := []byte{8, 7, 6, 5, 4, 3, 2, 1}
	for n := range 9 {
		if b := word.Bytes(0x0102030405060708, n); !slices.Equal(b, whole[:n]) {
			t.Error(n, b)
		}
	}
	for _, n := range []int{-1, -8, 9, 10, 64, math.MinInt, math.MaxInt} {
		if b := word.Bytes(math.MaxUint64, n); len(b) != 0 {
			t.Error(n, b)
		}
	}
}

// P1.1
func TestNumber(t *testing.T) {
	for _, x := range []struct {
		b    []byte
		want uint64
	}{
		{nil, 0}, {[]byte{}, 0}, {[]byte{7}, 7}, {[]byte{2, 1}, 258}, {[]byte{0, 0, 1}, 1 << 16},
		{[]byte{1, 2, 3, 4, 5, 6, 7}, 0x07060504030201},
		{[]byte{8, 7, 6, 5, 4, 3, 2, 1}, 0x0102030405060708},
		{[]byte{8, 7, 6, 5, 4, 3, 2, 1, 9}, 0x0102030405060708},
		{[]byte{0, 0, 0, 0, 0, 0, 0, 128, 255, 255}, 1 << 63},
	} {
		given := slices.Clone(x.b)
		if v := word.Number(x.b); v != x.want || !slices.Equal(given, x.b) {
			t.Error(x, v)
		}
	}
}

// P1.1: what stands in a list's spare room, behind its end, is no byte of the number.
func TestNumberLeavesSpareRoom(t *testing.T) {
	b := []byte{1, 2, 3, 4, 5, 6, 7, 8}
	if v := word.Number(b[:3]); v != 0x030201 {
		t.Error(v)
	}
}

// P1.1
func TestChunks(t *testing.T) {
	for _, x := range []struct {
		n    int
		want []int
	}{
		{1, []int{1}}, {7, []int{7}}, {8, []int{8}}, {9, []int{8, 1}}, {16, []int{8, 8}}, {17, []int{8, 8, 1}},
	} {
		if l := word.Chunks(x.n); !slices.Equal(l, x.want) {
			t.Error(x, l)
		}
	}
	for _, n := range []int{0, -1, -8, math.MinInt, api.MaxBuffer + 1, api.MaxBuffer + 8, math.MaxInt} {
		if l := word.Chunks(n); len(l) != 0 {
			t.Error(n, len(l))
		}
	}
}

// P1.2
func TestEightBytesTellTheNumber(t *testing.T) {
	for _, v := range numbers() {
		b := word.Bytes(v, 8)
		if len(b) != 8 || word.Number(b) != v {
			t.Error(v, b)
		}
	}
}

// P1.2: fewer bytes tell what is left of the number.
func TestFewerBytesTellTheLowest(t *testing.T) {
	for _, v := range numbers() {
		for n := range 8 {
			want := v & (1<<(8*n) - 1)
			if got := word.Number(word.Bytes(v, n)); got != want {
				t.Error(v, n, got, want)
			}
		}
	}
}

// P1.2: only the last chunk may be shorter than the greatest.
func TestChunksMakeTheirSum(t *testing.T) {
	for _, n := range lengths() {
		sum, l := 0, word.Chunks(n)
		for i, c := range l {
			if c < 1 || c > api.MaxChunk || c < api.MaxChunk && i < len(l)-1 {
				t.Error(n, i, c)
			}
			sum += c
		}
		if sum != n {
			t.Error(n, sum)
		}
	}
}

// R6: what is answered is new memory.
func TestAnswersAreNew(t *testing.T) {
	b, c := word.Bytes(1, 8), word.Bytes(1, 8)
	b[0] = 9
	l, m := word.Chunks(17), word.Chunks(17)
	l[0] = 9
	if c[0] != 1 || m[0] != 8 {
		t.Error(c, m)
	}
}
