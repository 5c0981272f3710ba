package membuf_test

import (
	"bytes"
	"math"
	"slices"
	"sync"
	"testing"

	"millstream/api"
	"millstream/membuf"
)

const all = math.MaxUint64

// fresh is a buffer whose bytes are 0.
func fresh(t *testing.T, size int) *membuf.Buffer {
	t.Helper()
	b, e := membuf.New(size)
	if b == nil || e != api.OK {
		t.Fatal(size, b == nil, e)
	}
	return b
}

// row is a buffer of size bytes that are 1, 2, 3, ..
func row(t *testing.T, size int) (*membuf.Buffer, []byte) {
	t.Helper()
	b, l := fresh(t, size), make([]byte, size)
	for i := range l {
		l[i] = byte(i + 1)
		must(t, b, api.Access{Kind: api.Write, At: i, N: 1, B: l[i : i+1]})
	}
	return b, l
}

// must does an access that may be.
func must(t *testing.T, b *membuf.Buffer, a api.Access) api.Answer {
	t.Helper()
	x, e := b.Do(a)
	if e != api.OK {
		t.Fatal(a, e)
	}
	return x
}

// same asks whether two answers tell the same.
func same(x, y api.Answer) bool {
	return x.V == y.V && x.Done == y.Done && bytes.Equal(x.B, y.B)
}

// told does accesses in order, and holds their answers against what is asked.
func told(t *testing.T, b *membuf.Buffer, l []step) {
	t.Helper()
	for i, x := range l {
		if got := must(t, b, x.do); !same(got, x.want) {
			t.Error(i, x.do, got, "not", x.want)
		}
	}
}

type step struct {
	do   api.Access
	want api.Answer
}

// P2.1
func TestNew(t *testing.T) {
	for _, size := range []int{8, 16, 24, 64, 1000, 4096, api.MaxBuffer - 8, api.MaxBuffer} {
		b := fresh(t, size)
		if b.Size() != size || b.Count() != 0 || !bytes.Equal(b.Bytes(), make([]byte, size)) {
			t.Error(size, b.Size(), b.Count())
		}
	}
}

// P2.1
func TestNewRefuses(t *testing.T) {
	for _, size := range []int{
		0, 1, 4, 7, 9, 12, 15, 63, -1, -8, -64, math.MinInt,
		api.MaxBuffer - 4, api.MaxBuffer - 1, api.MaxBuffer + 1, api.MaxBuffer + 8, math.MaxInt, math.MaxInt - 7,
	} {
		if b, e := membuf.New(size); b != nil || e != api.ErrArg {
			t.Error(size, b != nil, e)
		}
	}
}

// lists are bytes of each length around those that may be written.
func lists() [][]byte {
	l := [][]byte{nil}
	for n := range 12 {
		l = append(l, make([]byte, n))
	}
	return append(l, make([]byte, 64))
}

// refused is what Check must answer: by a list of what may be, as the chapter's words stand.
func refused(size int, a api.Access) api.Errno {
	var right []int
	switch a.Kind {
	case api.Load, api.Store, api.Cas:
		right = []int{4, 8}
	case api.Add:
		right = []int{8}
	case api.Read:
		right = []int{0, 1, 2, 3, 4, 5, 6, 7, 8}
	case api.Write:
		if len(a.B) <= 8 {
			right = []int{len(a.B)}
		}
	}
	if !slices.Contains(right, a.N) {
		return api.ErrArg
	}
	if a.At < 0 || a.At > size || a.N > size-a.At {
		return api.ErrRange
	}
	if a.Kind <= api.Cas && a.At%a.N != 0 {
		return api.ErrAlign
	}
	return api.OK
}

// P2.1: each kind, place and length around those that may be.
func TestCheckOfAll(t *testing.T) {
	const size = 24
	b, was := row(t, size)
	sizes := []int{-8, -1, 0, 4, 7, 8, 12, 16, size, api.MaxBuffer, math.MaxInt, math.MinInt}
	for kind := -1; kind <= 8; kind++ {
		for at := -9; at <= size+9; at++ {
			for n := -9; n <= 17; n++ {
				for _, l := range lists() {
					a := api.Access{Kind: kind, At: at, N: n, B: l}
					for _, s := range sizes {
						if e := membuf.Check(s, a); e != refused(s, a) {
							t.Fatal(s, a, e)
						}
					}
					if want := refused(size, a); want != api.OK {
						if x, e := b.Do(a); e != want || !same(x, api.Answer{}) {
							t.Fatal(a, x, e)
						}
					}
				}
			}
		}
	}
	if !bytes.Equal(b.Bytes(), was) || b.Count() != size {
		t.Error("what was refused did something", b.Bytes(), b.Count())
	}
}

// P2.1: the edges, each written out.
func TestCheck(t *testing.T) {
	for _, x := range []struct {
		a    api.Access
		want api.Errno
	}{
		{api.Access{Kind: api.Load, At: 12, N: 4}, api.OK},
		{api.Access{Kind: api.Load, At: 8, N: 8}, api.OK},
		{api.Access{Kind: api.Load, At: 4, N: 8}, api.ErrAlign},
		{api.Access{Kind: api.Load, At: 2, N: 4}, api.ErrAlign},
		{api.Access{Kind: api.Load, At: 12, N: 8}, api.ErrRange},
		{api.Access{Kind: api.Load, At: 13, N: 4}, api.ErrRange},
		{api.Access{Kind: api.Load, At: 16, N: 4}, api.ErrRange},
		{api.Access{Kind: api.Load, At: -8, N: 8}, api.ErrRange},
		{api.Access{Kind: api.Load, At: -3, N: 8}, api.ErrRange},
		{api.Access{Kind: api.Load, At: 0, N: 0}, api.ErrArg},
		{api.Access{Kind: api.Load, At: 0, N: 2}, api.ErrArg},
		{api.Access{Kind: api.Load, At: 99, N: 2}, api.ErrArg},
		{api.Access{Kind: api.Store, At: 8, N: 4}, api.OK},
		{api.Access{Kind: api.Store, At: 6, N: 4}, api.ErrAlign},
		{api.Access{Kind: api.Store, At: 0, N: 1}, api.ErrArg},
		{api.Access{Kind: api.Store, At: 0, N: 16}, api.ErrArg},
		{api.Access{Kind: api.Add, At: 8, N: 8}, api.OK},
		{api.Access{Kind: api.Add, At: 8, N: 4}, api.ErrArg},
		{api.Access{Kind: api.Add, At: 4, N: 8}, api.ErrAlign},
		{api.Access{Kind: api.Cas, At: 12, N: 4}, api.OK},
		{api.Access{Kind: api.Cas, At: 8, N: 8}, api.OK},
		{api.Access{Kind: api.Cas, At: 4, N: 8}, api.ErrAlign},
		{api.Access{Kind: api.Cas, At: 7, N: 4}, api.ErrAlign},
		{api.Access{Kind: api.Cas, At: 0, N: 3}, api.ErrArg},
		{api.Access{Kind: api.Read, At: 16, N: 0}, api.OK},
		{api.Access{Kind: api.Read, At: 17, N: 0}, api.ErrRange},
		{api.Access{Kind: api.Read, At: -1, N: 0}, api.ErrRange},
		{api.Access{Kind: api.Read, At: 5, N: 8}, api.OK},
		{api.Access{Kind: api.Read, At: 9, N: 8}, api.ErrRange},
		{api.Access{Kind: api.Read, At: 0, N: 9}, api.ErrArg},
		{api.Access{Kind: api.Read, At: 0, N: -1}, api.ErrArg},
		{api.Access{Kind: api.Write, At: 16}, api.OK},
		{api.Access{Kind: api.Write, At: 17}, api.ErrRange},
		{api.Access{Kind: api.Write, At: 9, N: 7, B: make([]byte, 7)}, api.OK},
		{api.Access{Kind: api.Write, At: 10, N: 7, B: make([]byte, 7)}, api.ErrRange},
		{api.Access{Kind: api.Write, At: 0, N: 9, B: make([]byte, 9)}, api.ErrArg},
		{api.Access{Kind: api.Write, At: 0, N: 0, B: make([]byte, 3)}, api.ErrArg},
		{api.Access{Kind: api.Write, At: 0, N: 4, B: make([]byte, 3)}, api.ErrArg},
		{api.Access{Kind: api.Write, At: 0, N: 2, B: make([]byte, 3)}, api.ErrArg},
		{api.Access{Kind: api.Write, At: 0, N: 3}, api.ErrArg},
		{api.Access{Kind: 0, At: 0, N: 8}, api.ErrArg},
		{api.Access{Kind: 7, At: 0, N: 8}, api.ErrArg},
		{api.Access{Kind: -1, At: 99, N: 8}, api.ErrArg},
		{api.Access{}, api.ErrArg},
	} {
		if e := membuf.Check(16, x.a); e != x.want {
			t.Error(x.a, e, "not", x.want)
		}
	}
}

// P2.1: at the ends of what an int holds, where sums go round.
func TestCheckFarAway(t *testing.T) {
	for _, at := range []int{math.MaxInt, math.MaxInt - 7, math.MaxInt - 3, math.MinInt, math.MinInt + 8, 1 << 62, 1 << 32, -1 << 32} {
		for kind := api.Load; kind <= api.Write; kind++ {
			a := api.Access{Kind: kind, At: at, N: 8}
			if kind == api.Write {
				a.B = make([]byte, 8)
			}
			if e := membuf.Check(api.MaxBuffer, a); e != api.ErrRange {
				t.Error(a, e)
			}
			if e := membuf.Check(math.MinInt, a); e != api.ErrRange {
				t.Error(a, e)
			}
		}
	}
	if e := membuf.Check(math.MaxInt, api.Access{Kind: api.Load, At: math.MaxInt - 3, N: 4}); e != api.ErrRange {
		t.Error(e)
	}
	for _, n := range []int{math.MaxInt, math.MinInt, 1 << 32, 1<<32 + 8, 1<<62 + 4} {
		for kind := api.Load; kind <= api.Write; kind++ {
			if e := membuf.Check(api.MaxBuffer, api.Access{Kind: kind, N: n}); e != api.ErrArg {
				t.Error(kind, n, e)
			}
		}
	}
}

// P2.1: what a kind doesn't use counts for nothing.
func TestUnusedCountsForNothing(t *testing.T) {
	many := make([]byte, 99)
	for i := range many {
		many[i] = 9
	}
	b, l := row(t, 16)
	told(t, b, []step{
		{api.Access{Kind: api.Load, At: 0, N: 8, V: 7, W: 7, B: many}, api.Answer{V: 0x0807060504030201}},
		{api.Access{Kind: api.Read, At: 3, N: 2, V: 7, W: 7, B: many}, api.Answer{B: l[3:5]}},
		{api.Access{Kind: api.Store, At: 0, N: 8, V: 5, W: 7, B: many}, api.Answer{}},
		{api.Access{Kind: api.Add, At: 0, N: 8, V: 2, W: 7, B: many}, api.Answer{V: 5}},
		{api.Access{Kind: api.Cas, At: 0, N: 8, V: 7, W: 1, B: many}, api.Answer{V: 7, Done: true}},
		{api.Access{Kind: api.Write, At: 8, N: 1, V: 7, W: 7, B: []byte{3}}, api.Answer{}},
	})
	want := []byte{1, 0, 0, 0, 0, 0, 0, 0, 3, 10, 11, 12, 13, 14, 15, 16}
	if got := b.Bytes(); !bytes.Equal(got, want) {
		t.Error(got)
	}
}

// P2.1
func TestLoad(t *testing.T) {
	b, _ := row(t, 16)
	told(t, b, []step{
		{api.Access{Kind: api.Load, At: 0, N: 8}, api.Answer{V: 0x0807060504030201}},
		{api.Access{Kind: api.Load, At: 8, N: 8}, api.Answer{V: 0x100f0e0d0c0b0a09}},
		{api.Access{Kind: api.Load, At: 0, N: 4}, api.Answer{V: 0x04030201}},
		{api.Access{Kind: api.Load, At: 4, N: 4}, api.Answer{V: 0x08070605}},
		{api.Access{Kind: api.Load, At: 12, N: 4}, api.Answer{V: 0x100f0e0d}},
	})
}

// P2.1: four bytes are below 2^32 at either half, whatever they are.
func TestLoadOfFourIsBelow(t *testing.T) {
	b := fresh(t, 8)
	told(t, b, []step{
		{api.Access{Kind: api.Store, At: 0, N: 8, V: all}, api.Answer{}},
		{api.Access{Kind: api.Load, At: 0, N: 8}, api.Answer{V: all}},
		{api.Access{Kind: api.Load, At: 0, N: 4}, api.Answer{V: math.MaxUint32}},
		{api.Access{Kind: api.Load, At: 4, N: 4}, api.Answer{V: math.MaxUint32}},
		{api.Access{Kind: api.Cas, At: 0, N: 4, V: 1}, api.Answer{V: math.MaxUint32}},
		{api.Access{Kind: api.Cas, At: 4, N: 4, V: 1}, api.Answer{V: math.MaxUint32}},
	})
}

// P2.1
func TestStore(t *testing.T) {
	b, _ := row(t, 24)
	told(t, b, []step{
		{api.Access{Kind: api.Store, At: 8, N: 8, V: 0xf1f2f3f4f5f6f7f8}, api.Answer{}},
		{api.Access{Kind: api.Load, At: 8, N: 8}, api.Answer{V: 0xf1f2f3f4f5f6f7f8}},
		{api.Access{Kind: api.Store, At: 16, N: 4, V: 0xe1e2e3e4e5e6e7e8}, api.Answer{}},
		{api.Access{Kind: api.Store, At: 4, N: 4, V: 0xd1d2d3d4}, api.Answer{}},
	})
	want := []byte{
		1, 2, 3, 4, 0xd4, 0xd3, 0xd2, 0xd1,
		0xf8, 0xf7, 0xf6, 0xf5, 0xf4, 0xf3, 0xf2, 0xf1,
		0xe8, 0xe7, 0xe6, 0xe5, 21, 22, 23, 24,
	}
	if got := b.Bytes(); !bytes.Equal(got, want) {
		t.Error(got)
	}
}

// P2.1
func TestAdd(t *testing.T) {
	b := fresh(t, 24)
	told(t, b, []step{
		{api.Access{Kind: api.Add, At: 0, N: 8, V: 5}, api.Answer{V: 0}},
		{api.Access{Kind: api.Add, At: 0, N: 8, V: 5}, api.Answer{V: 5}},
		{api.Access{Kind: api.Add, At: 0, N: 8, V: 0}, api.Answer{V: 10}},
		{api.Access{Kind: api.Add, At: 8, N: 8, V: all}, api.Answer{V: 0}},
		{api.Access{Kind: api.Add, At: 8, N: 8, V: 3}, api.Answer{V: all}},
		{api.Access{Kind: api.Load, At: 8, N: 8}, api.Answer{V: 2}},
		{api.Access{Kind: api.Add, At: 8, N: 8, V: math.MaxUint32}, api.Answer{V: 2}},
		{api.Access{Kind: api.Load, At: 8, N: 8}, api.Answer{V: 1<<32 + 1}},
		{api.Access{Kind: api.Load, At: 0, N: 8}, api.Answer{V: 10}},
		{api.Access{Kind: api.Load, At: 16, N: 8}, api.Answer{V: 0}},
	})
}

// P2.1
func TestCas(t *testing.T) {
	b := fresh(t, 16)
	told(t, b, []step{
		{api.Access{Kind: api.Cas, At: 8, N: 8, V: 0, W: all}, api.Answer{V: 0, Done: true}},
		{api.Access{Kind: api.Cas, At: 8, N: 8, V: 0, W: 7}, api.Answer{V: all}},
		{api.Access{Kind: api.Cas, At: 8, N: 8, V: math.MaxUint32, W: 7}, api.Answer{V: all}},
		{api.Access{Kind: api.Load, At: 8, N: 8}, api.Answer{V: all}},
		{api.Access{Kind: api.Cas, At: 8, N: 8, V: all, W: all}, api.Answer{V: all, Done: true}},
		{api.Access{Kind: api.Cas, At: 8, N: 8, V: all, W: 1 << 40}, api.Answer{V: all, Done: true}},
		{api.Access{Kind: api.Load, At: 8, N: 8}, api.Answer{V: 1 << 40}},
		{api.Access{Kind: api.Load, At: 0, N: 8}, api.Answer{V: 0}},
	})
}

// P2.1: of four bytes V and W count by their lowest four, and the other half for nothing.
func TestCasOfFour(t *testing.T) {
	b := fresh(t, 16)
	told(t, b, []step{
		{api.Access{Kind: api.Store, At: 8, N: 8, V: 0x1111111122222222}, api.Answer{}},
		{api.Access{Kind: api.Cas, At: 8, N: 4, V: 0x9999999922222222, W: 0x8888888833333333}, api.Answer{V: 0x22222222, Done: true}},
		{api.Access{Kind: api.Load, At: 8, N: 8}, api.Answer{V: 0x1111111133333333}},
		{api.Access{Kind: api.Cas, At: 12, N: 4, V: 0x7777777711111111, W: 0x6666666644444444}, api.Answer{V: 0x11111111, Done: true}},
		{api.Access{Kind: api.Load, At: 8, N: 8}, api.Answer{V: 0x4444444433333333}},
		{api.Access{Kind: api.Cas, At: 12, N: 4, V: 0x33333333, W: 1}, api.Answer{V: 0x44444444}},
		{api.Access{Kind: api.Cas, At: 8, N: 4, V: 0x44444444, W: 1}, api.Answer{V: 0x33333333}},
		{api.Access{Kind: api.Load, At: 8, N: 8}, api.Answer{V: 0x4444444433333333}},
		{api.Access{Kind: api.Load, At: 0, N: 8}, api.Answer{V: 0}},
	})
}

// P2.1: at each place, of each length, within a word and over the end of one.
func TestRead(t *testing.T) {
	b, l := row(t, 24)
	for n := range api.MaxChunk + 1 {
		for at := range len(l) - n + 1 {
			x := must(t, b, api.Access{Kind: api.Read, At: at, N: n})
			if !same(x, api.Answer{B: l[at : at+n]}) {
				t.Error(at, n, x)
			}
		}
	}
}

// P2.1, P2.2: at each place, of each length; the bytes beside stay.
func TestWrite(t *testing.T) {
	data := []byte{0xa1, 0xa2, 0xa3, 0xa4, 0xa5, 0xa6, 0xa7, 0xa8}
	for n := range api.MaxChunk + 1 {
		for at := range 24 - n + 1 {
			b, want := row(t, 24)
			x := must(t, b, api.Access{Kind: api.Write, At: at, N: n, B: data[:n]})
			copy(want[at:], data[:n])
			if got := b.Bytes(); !bytes.Equal(got, want) || !same(x, api.Answer{}) {
				t.Error(at, n, got, x)
			}
		}
	}
}

// P2.1: the last bytes of the greatest buffer are there.
func TestGreatestBuffer(t *testing.T) {
	b := fresh(t, api.MaxBuffer)
	told(t, b, []step{
		{api.Access{Kind: api.Store, At: api.MaxBuffer - 8, N: 8, V: 0x0807060504030201}, api.Answer{}},
		{api.Access{Kind: api.Load, At: api.MaxBuffer - 4, N: 4}, api.Answer{V: 0x08070605}},
		{api.Access{Kind: api.Read, At: api.MaxBuffer - 3, N: 3}, api.Answer{B: []byte{6, 7, 8}}},
		{api.Access{Kind: api.Read, At: api.MaxBuffer, N: 0}, api.Answer{}},
		{api.Access{Kind: api.Write, At: api.MaxBuffer - 1, N: 1, B: []byte{9}}, api.Answer{}},
	})
	l := b.Bytes()
	if len(l) != api.MaxBuffer || !bytes.Equal(l[api.MaxBuffer-9:], []byte{0, 1, 2, 3, 4, 5, 6, 7, 9}) {
		t.Error(len(l), l[len(l)-9:])
	}
}

// P2.1: a Cas that didn't store counts, an access of no bytes too; what was refused doesn't.
func TestCount(t *testing.T) {
	b := fresh(t, 16)
	for i, x := range []struct {
		a    api.Access
		want int64
	}{
		{api.Access{Kind: api.Load, At: 0, N: 8}, 1},
		{api.Access{Kind: api.Store, At: 0, N: 4, V: 3}, 2},
		{api.Access{Kind: api.Add, At: 8, N: 8}, 3},
		{api.Access{Kind: api.Cas, At: 0, N: 4, V: 9}, 4},
		{api.Access{Kind: api.Cas, At: 0, N: 4, V: 3}, 5},
		{api.Access{Kind: api.Read, At: 16, N: 0}, 6},
		{api.Access{Kind: api.Write, At: 0, N: 0}, 7},
		{api.Access{Kind: api.Write, At: 7, N: 2, B: []byte{1, 2}}, 8},
		{api.Access{Kind: api.Load, At: 1, N: 8}, 8},
		{api.Access{Kind: api.Load, At: 16, N: 8}, 8},
		{api.Access{Kind: 9, At: 0, N: 8}, 8},
		{api.Access{Kind: api.Read, At: 9, N: 7}, 9},
	} {
		b.Do(x.a)
		if got := b.Count(); got != x.want {
			t.Error(i, x.a, got, "not", x.want)
		}
	}
	b.Bytes()
	b.Size()
	membuf.Check(16, api.Access{Kind: api.Load, N: 8})
	if b.Count() != 9 {
		t.Error("looking counts", b.Count())
	}
}

// P2.1
func TestNilBuffer(t *testing.T) {
	var b *membuf.Buffer
	if b.Size() != 0 || b.Count() != 0 || len(b.Bytes()) != 0 {
		t.Error(b.Size(), b.Count(), b.Bytes())
	}
	for _, a := range []api.Access{
		{Kind: api.Load, N: 8}, {Kind: api.Load, At: 3, N: 4}, {Kind: api.Store, N: 4}, {Kind: api.Add, N: 8},
		{Kind: api.Cas, N: 8}, {Kind: api.Read, N: 1}, {Kind: api.Read}, {Kind: api.Write}, {Kind: api.Read, At: 1},
		{Kind: api.Write, N: 1, B: []byte{1}}, {Kind: api.Load, At: -8, N: 8},
	} {
		if x, e := b.Do(a); e != api.ErrRange || !same(x, api.Answer{}) {
			t.Error(a, x, e)
		}
	}
	if b.Count() != 0 {
		t.Error(b.Count())
	}
}

// P2.1: a wrong access is named ahead of where it is.
func TestNilBufferWrongAccess(t *testing.T) {
	var b *membuf.Buffer
	for _, a := range []api.Access{{}, {Kind: 7, N: 8}, {Kind: api.Load, N: 5}, {Kind: api.Write, N: 1}} {
		if x, e := b.Do(a); e != api.ErrArg || !same(x, api.Answer{}) {
			t.Error(a, x, e)
		}
	}
}

// P2.2
func TestRefusedDidNothing(t *testing.T) {
	b, was := row(t, 16)
	count := b.Count()
	l := make([]byte, 9)
	for _, x := range []struct {
		a    api.Access
		want api.Errno
	}{
		{api.Access{Kind: api.Store, At: 4, N: 8, V: 1}, api.ErrAlign},
		{api.Access{Kind: api.Store, At: 2, N: 4, V: 1}, api.ErrAlign},
		{api.Access{Kind: api.Store, At: 0, N: 2, V: 1}, api.ErrArg},
		{api.Access{Kind: api.Store, At: 16, N: 8, V: 1}, api.ErrRange},
		{api.Access{Kind: api.Store, At: -8, N: 8, V: 1}, api.ErrRange},
		{api.Access{Kind: api.Add, At: 0, N: 4, V: 1}, api.ErrArg},
		{api.Access{Kind: api.Add, At: 4, N: 8, V: 1}, api.ErrAlign},
		{api.Access{Kind: api.Cas, At: 1, N: 4, V: 0x05040302, W: 1}, api.ErrAlign},
		{api.Access{Kind: api.Cas, At: 0, N: 1, V: 1, W: 9}, api.ErrArg},
		{api.Access{Kind: api.Write, At: 0, N: 9, B: l}, api.ErrArg},
		{api.Access{Kind: api.Write, At: 0, N: 4, B: l[:5]}, api.ErrArg},
		{api.Access{Kind: api.Write, At: 12, N: 5, B: l[:5]}, api.ErrRange},
		{api.Access{Kind: api.Write, At: -1, N: 5, B: l[:5]}, api.ErrRange},
	} {
		if y, e := b.Do(x.a); e != x.want || !same(y, api.Answer{}) {
			t.Error(x.a, y, e, "not", x.want)
		}
	}
	if got := b.Bytes(); !bytes.Equal(got, was) || b.Count() != count {
		t.Error(got, b.Count())
	}
}

// model is a buffer's bytes, one by one: what an access does to them, and tells.
type model []byte

func (m model) number(at, n int) uint64 {
	var v uint64
	for i := n - 1; i >= 0; i-- {
		v = v<<8 | uint64(m[at+i])
	}
	return v
}

func (m model) put(at, n int, v uint64) {
	for i := range n {
		m[at+i] = byte(v)
		v >>= 8
	}
}

func (m model) do(a api.Access) api.Answer {
	switch a.Kind {
	case api.Load:
		return api.Answer{V: m.number(a.At, a.N)}
	case api.Store:
		m.put(a.At, a.N, a.V)
	case api.Add:
		v := m.number(a.At, a.N)
		m.put(a.At, a.N, v+a.V)
		return api.Answer{V: v}
	case api.Cas:
		v := m.number(a.At, a.N)
		if v<<(64-8*a.N) != a.V<<(64-8*a.N) {
			return api.Answer{V: v}
		}
		m.put(a.At, a.N, a.W)
		return api.Answer{V: v, Done: true}
	case api.Read:
		return api.Answer{B: bytes.Clone(m[a.At : a.At+a.N])}
	case api.Write:
		copy(m[a.At:], a.B)
	}
	return api.Answer{}
}

// P2.1, P2.2: many accesses in a row, each held against the model; all bytes that it doesn't name stay.
func TestAgainstModel(t *testing.T) {
	const size = 40
	b, m := fresh(t, size), make(model, size)
	state := uint64(1)
	next := func(n int) int {
		state = state*6364136223846793005 + 1442695040888963407
		return int(state >> 33 % uint64(n))
	}
	// Numbers out of few, so that what is awaited is often there.
	few := []uint64{0, 1, 255, 1 << 31, math.MaxUint32, 1 << 32, 0x0102030405060708, all}
	count := int64(0)
	for i := range 60000 {
		a := api.Access{Kind: 1 + next(6), At: next(size + 2), N: next(10), V: few[next(len(few))], W: few[next(len(few))]}
		if next(2) == 0 {
			a.N, a.At = 4+4*next(2), a.At&^3
		}
		if a.Kind == api.Write {
			a.B = make([]byte, a.N)
			for j := range a.B {
				a.B[j] = byte(next(256))
			}
		}
		if a.Kind == api.Cas && next(2) == 0 && refused(size, a) == api.OK {
			a.V = m.number(a.At, a.N) | few[next(len(few))]<<32
		}
		want, wrong := api.Answer{}, refused(size, a)
		if wrong == api.OK {
			want = m.do(a)
			count++
		}
		x, e := b.Do(a)
		if e != wrong || !same(x, want) || b.Count() != count || !bytes.Equal(b.Bytes(), m) {
			t.Fatal(i, a, x, e, "not", want, wrong, b.Bytes(), m)
		}
	}
}

// R6: what is handed in is neither changed nor kept.
func TestWriteKeepsNothing(t *testing.T) {
	b := fresh(t, 16)
	l := []byte{1, 2, 3, 4, 5, 6, 7, 8, 9, 10}
	must(t, b, api.Access{Kind: api.Write, At: 5, N: 6, B: l[:6]})
	if !bytes.Equal(l, []byte{1, 2, 3, 4, 5, 6, 7, 8, 9, 10}) {
		t.Error(l)
	}
	l[0] = 99
	must(t, b, api.Access{Kind: api.Store, At: 8, N: 8})
	if got := b.Bytes(); !bytes.Equal(got, []byte{0, 0, 0, 0, 0, 1, 2, 3, 0, 0, 0, 0, 0, 0, 0, 0}) || l[3] != 4 {
		t.Error(got, l)
	}
}

// R6: what is answered is new memory.
func TestAnswersAreNew(t *testing.T) {
	b, want := row(t, 16)
	l, m := b.Bytes(), b.Bytes()
	l[0] = 99
	x := must(t, b, api.Access{Kind: api.Read, At: 0, N: 8})
	x.B[1] = 99
	y := must(t, b, api.Access{Kind: api.Read, At: 0, N: 8})
	if !bytes.Equal(b.Bytes(), want) || !bytes.Equal(m, want) || !bytes.Equal(y.B, want[:8]) {
		t.Error(b.Bytes(), m, y.B)
	}
	must(t, b, api.Access{Kind: api.Store, At: 0, N: 8})
	if !bytes.Equal(m, want) || !bytes.Equal(y.B, want[:8]) {
		t.Error("answers follow the buffer", m, y.B)
	}
}

// R7: objects of their own don't depend on one another.
func TestBuffersAreApart(t *testing.T) {
	b, c := fresh(t, 8), fresh(t, 8)
	must(t, b, api.Access{Kind: api.Store, At: 0, N: 8, V: all})
	if c.Count() != 0 || !bytes.Equal(c.Bytes(), make([]byte, 8)) {
		t.Error(c.Count(), c.Bytes())
	}
}

// raise adds 1 to four bytes by comparing and swapping, at most so often.
func raise(b *membuf.Buffer, at, most int) {
	for range most {
		x, _ := b.Do(api.Access{Kind: api.Load, At: at, N: 4})
		if y, _ := b.Do(api.Access{Kind: api.Cas, At: at, N: 4, V: x.V, W: x.V + 1}); y.Done {
			return
		}
	}
}

// together runs n goroutines that begin at once, so that they come between each other's accesses.
func together(n int, do func(i int)) {
	var g sync.WaitGroup
	start := make(chan bool)
	for i := range n {
		g.Add(1)
		go func() {
			defer g.Done()
			<-start
			do(i)
		}()
	}
	close(start)
	g.Wait()
}

// The chapter's way: words are reached atomically, so that nothing is lost when several reach one word at once.
func TestWordsAreAtomic(t *testing.T) {
	const rounds = 40000
	b := fresh(t, 16)
	together(4, func(i int) {
		for range rounds {
			b.Do(api.Access{Kind: api.Add, At: 0, N: 8, V: 1})
			// Who comes between has raised it itself: that happens less than this often.
			raise(b, 8+4*(i%2), 2*rounds)
		}
	})
	told(t, b, []step{
		{api.Access{Kind: api.Load, At: 0, N: 8}, api.Answer{V: 4 * rounds}},
		{api.Access{Kind: api.Load, At: 8, N: 4}, api.Answer{V: 2 * rounds}},
		{api.Access{Kind: api.Load, At: 12, N: 4}, api.Answer{V: 2 * rounds}},
	})
}

// The chapter's way: a store, or a write, of some of a word's bytes doesn't lose what another one sets beside it.
func TestPartsOfWordsAreAtomic(t *testing.T) {
	const rounds = 40000
	b := fresh(t, 8)
	lost := make([]int, 3)
	together(3, func(i int) {
		at, n := []int{0, 4, 6}[i], []int{4, 2, 2}[i]
		for k := range uint64(rounds) {
			set := api.Access{Kind: api.Store, At: at, N: n, V: k}
			if n < 4 {
				set = api.Access{Kind: api.Write, At: at, N: n, B: []byte{byte(k), byte(k >> 8)}}
			}
			b.Do(set)
			x, _ := b.Do(api.Access{Kind: api.Load, At: at &^ 3, N: 4})
			if uint16(x.V>>(8*(at&3))) != uint16(k) {
				lost[i]++
			}
		}
	})
	if !slices.Equal(lost, []int{0, 0, 0}) {
		t.Error(lost)
	}
}
