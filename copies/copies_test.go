package copies_test

import (
	"bytes"
	"math"
	"reflect"
	"testing"

	"millstream/api"
	"millstream/copies"
	"millstream/membuf"
	"millstream/word"
)

// copier is one of the three copies: how it is made of a place and as many bytes as there are, and what it does.
type copier struct {
	name string
	make func(at int, b []byte) *copies.Copy
	kind int
	zero bool
}

func copiers() []copier {
	zero := func(at int, b []byte) *copies.Copy { return copies.Zero(at, len(b)) }
	out := func(at int, b []byte) *copies.Copy { return copies.Out(at, len(b)) }
	return []copier{
		{"in", copies.In, api.Write, false},
		{"zero", zero, api.Write, true},
		{"out", out, api.Read, false},
	}
}

// as is what a copier of these bytes copies.
func (k copier) as(b []byte) []byte {
	if k.zero {
		return make([]byte, len(b))
	}
	return b
}

// row is n bytes that are 1, 2, 3, .., none of them 0.
func row(n int) []byte {
	l := make([]byte, n)
	for i := range l {
		l[i] = byte(i%255 + 1)
	}
	return l
}

// lengths are ones around the chunks' ends.
func lengths() []int {
	l := []int{63, 64, 65, 255, 256, 1000}
	for n := range 41 {
		l = append(l, n)
	}
	return l
}

// greatest are lengths around the greatest one, as far as they may be.
func greatest() []int {
	return []int{api.MaxBuffer - 9, api.MaxBuffer - 8, api.MaxBuffer - 7, api.MaxBuffer - 1, api.MaxBuffer}
}

// answers are what may be told of an access: what fits it, and what doesn't.
func answers() []api.Answer {
	return []api.Answer{
		{}, {B: row(8)}, {B: row(3)}, {V: math.MaxUint64, Done: true}, {B: []byte{}},
		{V: 7, B: row(100)}, {Done: true, B: []byte{0}}, {B: make([]byte, 8)},
	}
}

// accesses are those that a copy of the bytes must do, as the chapter's words stand.
func accesses(kind, at int, b []byte) []api.Access {
	var l []api.Access
	for i := 0; i < len(b); i += 8 {
		end := min(i+8, len(b))
		a := api.Access{Kind: kind, At: at + i, N: end - i}
		if kind == api.Write {
			a.B = b[i:end]
		}
		l = append(l, a)
	}
	return l
}

// follow holds a machine's accesses against those that it must do; told(i) is what it is told of each.
func follow(t *testing.T, m *copies.Copy, want []api.Access, told func(i int) api.Answer) {
	t.Helper()
	for i, w := range want {
		for range 3 {
			if a, ok := m.Next(); !ok || !reflect.DeepEqual(a, w) {
				t.Fatal(i, a, ok, "not", w)
			}
		}
		m.Take(told(i))
	}
	ended(t, m)
}

// ended asks whether a machine is at its end, and stays there, whatever it is told.
func ended(t *testing.T, m *copies.Copy) {
	t.Helper()
	was := m.Bytes()
	for _, x := range answers() {
		if a, ok := m.Next(); ok || !reflect.DeepEqual(a, api.Access{}) {
			t.Fatal("an access at the end", a, ok)
		}
		m.Take(x)
		if !bytes.Equal(m.Bytes(), was) {
			t.Fatal("bytes at the end", x, m.Bytes())
		}
	}
}

// fresh is a buffer whose bytes are 0.
func fresh(t *testing.T, size int) *membuf.Buffer {
	t.Helper()
	b, e := membuf.New(size)
	if e != api.OK {
		t.Fatal(size, e)
	}
	return b
}

// step does a machine's next access to a buffer, and asks whether there was one that might be.
func step(b *membuf.Buffer, m *copies.Copy) (bool, api.Errno) {
	a, ok := m.Next()
	if !ok {
		return false, api.OK
	}
	x, e := b.Do(a)
	m.Take(x)
	return true, e
}

// run does all of a machine's accesses, none of which is refused.
func run(t *testing.T, b *membuf.Buffer, m *copies.Copy) *copies.Copy {
	t.Helper()
	for {
		ok, e := step(b, m)
		if e != api.OK {
			t.Fatal(e)
		}
		if !ok {
			return m
		}
	}
}

// P5.1: the chapter's example, and its like.
func TestAccesses(t *testing.T) {
	nine := []byte("ninebytes")
	follow(t, copies.In(0, nine), []api.Access{
		{Kind: api.Write, At: 0, N: 8, B: []byte("ninebyte")},
		{Kind: api.Write, At: 8, N: 1, B: []byte("s")},
	}, func(int) api.Answer { return api.Answer{} })
	follow(t, copies.Zero(5, 11), []api.Access{
		{Kind: api.Write, At: 5, N: 8, B: []byte{0, 0, 0, 0, 0, 0, 0, 0}},
		{Kind: api.Write, At: 13, N: 3, B: []byte{0, 0, 0}},
	}, func(int) api.Answer { return api.Answer{} })
	out := copies.Out(3, 18)
	follow(t, out, []api.Access{
		{Kind: api.Read, At: 3, N: 8},
		{Kind: api.Read, At: 11, N: 8},
		{Kind: api.Read, At: 19, N: 2},
	}, func(i int) api.Answer { return api.Answer{B: []byte{byte(i), 9}} })
	if b := out.Bytes(); !bytes.Equal(b, []byte{0, 9, 1, 9, 2, 9}) {
		t.Error(b)
	}
}

// P5.1: of each length and at each place, whatever is told: what fits, and what doesn't.
func TestAccessesOfAll(t *testing.T) {
	for _, k := range copiers() {
		for _, n := range lengths() {
			b := row(n)
			for _, at := range []int{0, 1, 7, 8, 100, api.MaxBuffer, 1 << 30, -1, -64, math.MinInt} {
				follow(t, k.make(at, b), accesses(k.kind, at, k.as(b)), func(i int) api.Answer { return answers()[i%8] })
			}
			for _, x := range answers() {
				follow(t, k.make(16, b), accesses(k.kind, 16, k.as(b)), func(int) api.Answer { return x })
			}
		}
		for _, n := range greatest() {
			b := row(n)
			follow(t, k.make(3, b), accesses(k.kind, 3, k.as(b)), func(int) api.Answer { return api.Answer{} })
		}
	}
}

// P5.1: chunks are layer 1's.
func TestChunks(t *testing.T) {
	for _, k := range copiers() {
		for _, n := range append(lengths(), greatest()...) {
			m, at := k.make(24, row(n)), 24
			for _, chunk := range word.Chunks(n) {
				if a, ok := m.Next(); !ok || a.At != at || a.N != chunk {
					t.Fatal(k.name, n, a, ok, at, chunk)
				}
				m.Take(api.Answer{})
				at += chunk
			}
			ended(t, m)
		}
	}
}

// P5.1: a machine goes on though nobody asked it for its next access.
func TestTakeAlone(t *testing.T) {
	for _, k := range copiers() {
		m := k.make(0, row(20))
		m.Take(api.Answer{B: []byte("ab")})
		m.Take(api.Answer{B: []byte("c")})
		if a, ok := m.Next(); !ok || a.At != 16 || a.N != 4 {
			t.Error(k.name, a, ok)
		}
		m.Take(api.Answer{})
		ended(t, m)
		if b := m.Bytes(); (string(b) == "abc") != (k.kind == api.Read) {
			t.Error(k.name, b)
		}
	}
}

// P5.1: of too few, and of too many, nothing.
func TestNothing(t *testing.T) {
	for _, n := range []int{0, -1, -8, -api.MaxBuffer, math.MinInt, math.MinInt + 1, api.MaxBuffer + 1, api.MaxBuffer + 8, 2 * api.MaxBuffer, 1 << 40, math.MaxInt} {
		for _, at := range []int{0, 8, -8, math.MaxInt, math.MinInt} {
			ended(t, copies.Zero(at, n))
			ended(t, copies.Out(at, n))
			if b := copies.Out(at, n).Bytes(); len(b) != 0 {
				t.Error(at, n, b)
			}
		}
	}
	for _, b := range [][]byte{nil, {}, row(9)[:0], row(api.MaxBuffer + 1), row(api.MaxBuffer + 8), row(2 * api.MaxBuffer)} {
		ended(t, copies.In(0, b))
		ended(t, copies.In(64, b))
	}
}

// P5.1: no machine at all, and one that nothing made.
func TestNil(t *testing.T) {
	for _, m := range []*copies.Copy{nil, {}} {
		ended(t, m)
		if b := m.Bytes(); len(b) != 0 {
			t.Error(b)
		}
	}
}

// P5.1: Bytes tells what was read so far: all bytes of the answers, as many as they are.
func TestBytes(t *testing.T) {
	for _, l := range [][]string{
		{"12345678", "12345678", "1234"}, {"", "", ""}, {"1", "22", "333"}, {"123456789", "", "12345678901234567890"}, {"", "a", ""},
	} {
		m, want := copies.Out(0, 20), ""
		for _, s := range l {
			if b := m.Bytes(); string(b) != want {
				t.Error(l, b, want)
			}
			m.Take(api.Answer{V: 77, Done: true, B: []byte(s)})
			want += s
			for range 2 {
				if b := m.Bytes(); string(b) != want {
					t.Error(l, b, want)
				}
			}
		}
		ended(t, m)
	}
}

// P5.1: who writes has read nothing, whatever it is told.
func TestBytesOfWhoWrites(t *testing.T) {
	for _, k := range copiers() {
		if k.kind != api.Write {
			continue
		}
		m := k.make(0, row(30))
		for range 6 {
			m.Take(api.Answer{V: 1, Done: true, B: row(8)})
			if b := m.Bytes(); len(b) != 0 {
				t.Error(k.name, b)
			}
		}
	}
}

// P5.1: what is handed in isn't kept: neither what is to be written nor what was told.
func TestHandedInIsNotKept(t *testing.T) {
	b := row(20)
	in := copies.In(0, b)
	clear(b)
	follow(t, in, accesses(api.Write, 0, row(20)), func(int) api.Answer { return api.Answer{} })
	out, told := copies.Out(0, 16), row(8)
	out.Take(api.Answer{B: told})
	clear(told)
	if l := out.Bytes(); !bytes.Equal(l, row(8)) {
		t.Error(l)
	}
}

// P5.1: what is handed in isn't changed, its spare room neither.
func TestHandedInIsNotChanged(t *testing.T) {
	all := row(64)
	in := copies.In(0, all[:20])
	for {
		a, ok := in.Next()
		if !ok {
			break
		}
		clear(append(a.B, 0, 0, 0))
		in.Take(api.Answer{})
	}
	out := copies.Out(0, 24)
	out.Take(api.Answer{B: all[:8]})
	out.Take(api.Answer{B: all[:3]})
	out.Take(api.Answer{B: all[:5]})
	clear(append(out.Bytes(), 0, 0, 0))
	if !bytes.Equal(all, row(64)) {
		t.Error(all)
	}
}

// P5.1: what is answered is new memory: the next access is the same whatever was done to it, and so are the bytes.
func TestAnswersAreNew(t *testing.T) {
	for _, k := range copiers() {
		m := k.make(0, row(20))
		for range 3 {
			was, _ := m.Next()
			other, _ := m.Next()
			want := bytes.Clone(was.B)
			for i := range was.B {
				was.B[i] += 100
			}
			if again, _ := m.Next(); !bytes.Equal(again.B, want) || !bytes.Equal(other.B, want) {
				t.Error(k.name, again.B, other.B, want)
			}
			m.Take(api.Answer{B: []byte("read")})
			clear(append(m.Bytes(), 1, 2, 3))
		}
		if b := m.Bytes(); k.kind == api.Read && string(b) != "readreadread" {
			t.Error(k.name, b)
		}
	}
	out := copies.Out(0, 24)
	out.Take(api.Answer{B: []byte("one")})
	early := out.Bytes()
	out.Take(api.Answer{B: []byte("two")})
	_ = append(early, "xyz"...)
	if late := out.Bytes(); string(early) != "one" || string(late) != "onetwo" {
		t.Error(early, late)
	}
}

// P5.1: machines don't depend on one another, those that were made of the same neither.
func TestMachinesAreTheirOwn(t *testing.T) {
	b := row(20)
	for _, k := range copiers() {
		one, other := k.make(0, b), k.make(0, b)
		first, _ := one.Next()
		one.Take(api.Answer{B: []byte("one")})
		one.Take(api.Answer{B: []byte("more")})
		if a, ok := other.Next(); !ok || !reflect.DeepEqual(a, first) || len(other.Bytes()) != 0 {
			t.Error(k.name, a, ok, other.Bytes())
		}
		other.Take(api.Answer{B: []byte("other")})
		if l := one.Bytes(); k.kind == api.Read && string(l) != "onemore" {
			t.Error(k.name, l)
		}
	}
}

// P5.2: at each place and of each length; nothing but the bytes that were asked for is written.
func TestCopiedInIsCopiedOut(t *testing.T) {
	const size = 48
	for n := range size + 1 {
		for at := range size - n + 1 {
			b, l := fresh(t, size), row(n)
			want := row(size)
			run(t, b, copies.In(0, want))
			for i := range l {
				l[i] += 100
			}
			run(t, b, copies.In(at, l))
			copy(want[at:], l)
			if got := run(t, b, copies.Out(at, n)).Bytes(); !bytes.Equal(got, l) {
				t.Fatal(at, n, got, l)
			}
			if !bytes.Equal(b.Bytes(), want) {
				t.Fatal(at, n, b.Bytes(), want)
			}
		}
	}
}

// P5.2: what was made 0 is read so, and what stands beside it is as it was.
func TestZeroIsCopiedOut(t *testing.T) {
	const size = 48
	for n := range size + 1 {
		for at := range size - n + 1 {
			b, want := fresh(t, size), row(size)
			run(t, b, copies.In(0, want))
			run(t, b, copies.Zero(at, n))
			clear(want[at : at+n])
			if got := run(t, b, copies.Out(0, size)).Bytes(); !bytes.Equal(got, want) || !bytes.Equal(b.Bytes(), want) {
				t.Fatal(at, n, got, want)
			}
		}
	}
}

// P5.2: of the greatest buffer, whole, and near its end.
func TestGreatestBuffer(t *testing.T) {
	b, want := fresh(t, api.MaxBuffer), row(api.MaxBuffer)
	run(t, b, copies.In(0, want))
	if b.Count() != api.MaxBuffer/8 {
		t.Error(b.Count())
	}
	if got := run(t, b, copies.Out(0, api.MaxBuffer)).Bytes(); !bytes.Equal(got, want) {
		t.Error("not as it was copied in")
	}
	run(t, b, copies.Zero(api.MaxBuffer-13, 13))
	clear(want[api.MaxBuffer-13:])
	if got := run(t, b, copies.Out(1, api.MaxBuffer-1)).Bytes(); !bytes.Equal(got, want[1:]) {
		t.Error("not as it was made 0")
	}
	run(t, b, copies.Zero(0, api.MaxBuffer))
	if got := run(t, b, copies.Out(0, api.MaxBuffer)).Bytes(); !bytes.Equal(got, make([]byte, api.MaxBuffer)) {
		t.Error("not 0")
	}
}

// P5.2: also when machines that write other bytes go on in between.
func TestCopiesInTurns(t *testing.T) {
	b, one, other := fresh(t, 64), row(21), bytes.Repeat([]byte{200}, 30)
	l := []*copies.Copy{copies.In(3, one), copies.In(24, other), copies.Zero(54, 10)}
	for range 5 {
		for _, m := range l {
			if _, e := step(b, m); e != api.OK {
				t.Fatal(e)
			}
		}
	}
	x, y := copies.Out(3, 21), copies.Out(24, 30)
	for range 5 {
		step(b, y)
		step(b, x)
	}
	if !bytes.Equal(x.Bytes(), one) || !bytes.Equal(y.Bytes(), other) {
		t.Error(x.Bytes(), y.Bytes())
	}
	for _, m := range append(l, x, y) {
		ended(t, m)
	}
}

// P5.1: a machine whose accesses the buffer refuses goes on to its end; what is there is read, the rest isn't.
func TestRefusedAccesses(t *testing.T) {
	b := fresh(t, 16)
	run(t, b, copies.In(0, row(16)))
	m := copies.Out(4, 28)
	for _, want := range []api.Errno{api.OK, api.ErrRange, api.ErrRange, api.ErrRange} {
		if ok, e := step(b, m); !ok || e != want {
			t.Error(ok, e, want)
		}
	}
	ended(t, m)
	if l := m.Bytes(); !bytes.Equal(l, row(16)[4:12]) {
		t.Error(l)
	}
	m = copies.Zero(-8, 16)
	if ok, e := step(b, m); !ok || e != api.ErrRange {
		t.Error(ok, e)
	}
	if ok, e := step(b, m); !ok || e != api.OK || !bytes.Equal(b.Bytes(), append(make([]byte, 8), row(16)[8:]...)) {
		t.Error(ok, e, b.Bytes())
	}
	ended(t, m)
}
