package head_test

import (
	"encoding/binary"
	"math"
	"testing"

	"millstream/api"
	"millstream/head"
)

// signed are numbers of four bytes whose bytes all differ, and the ends of what four bytes hold.
func signed() []int32 {
	l := []int32{0, 1, -1, 8, 32, 255, 256, -256, 65535, 65536, 0x01020304, -0x01020304, math.MaxInt32, math.MinInt32, math.MinInt32 + 1}
	for i := range 32 {
		l = append(l, int32(uint32(1)<<i))
	}
	return l
}

// P3.1
func TestRecord(t *testing.T) {
	for _, x := range []struct {
		length, typ int32
		want        uint64
	}{
		{0, 0, 0},
		{8, 1, 4294967304},
		{1, 0, 1},
		{0, 1, 1 << 32},
		{0x01020304, 0x05060708, 0x0506070801020304},
		{-1, 0, 0x00000000ffffffff},
		{0, -1, 0xffffffff00000000},
		{-1, -1, math.MaxUint64},
		{-2, 3, 0x00000003fffffffe},
		{16, api.PadRecord, 0xffffffff00000010},
		{math.MinInt32, 0, 1 << 31},
		{0, math.MinInt32, 1 << 63},
		{math.MaxInt32, math.MinInt32, 0x800000007fffffff},
		{math.MinInt32, math.MaxInt32, 0x7fffffff80000000},
	} {
		if v := head.Record(x.length, x.typ); v != x.want {
			t.Errorf("%d %d: %#x, not %#x", x.length, x.typ, v, x.want)
		}
		if length, typ := head.Split(x.want); length != x.length || typ != x.typ {
			t.Errorf("%#x: %d %d", x.want, length, typ)
		}
	}
}

// P3.1: a record's header, byte by byte.
func TestRecordBytes(t *testing.T) {
	for _, length := range signed() {
		for _, typ := range signed() {
			b := binary.LittleEndian.AppendUint32(nil, uint32(length))
			b = binary.LittleEndian.AppendUint32(b, uint32(typ))
			if v := head.Record(length, typ); v != binary.LittleEndian.Uint64(b) {
				t.Errorf("%d %d: %#x", length, typ, v)
			}
		}
	}
}

// P3.2
func TestRecordTellsWhatItWasMadeOf(t *testing.T) {
	for _, length := range signed() {
		for _, typ := range signed() {
			if gotLength, gotTyp := head.Split(head.Record(length, typ)); gotLength != length || gotTyp != typ {
				t.Error(length, typ, gotLength, gotTyp)
			}
		}
	}
	for i := range 64 {
		for _, v := range []uint64{1 << i, ^uint64(1 << i)} {
			if got := head.Record(head.Split(v)); got != v {
				t.Errorf("%#x: %#x", v, got)
			}
		}
	}
}

// bytesOf is a frame's header as the chapter lists its numbers, one behind the other.
func bytesOf(f api.Frame) []byte {
	b := binary.LittleEndian.AppendUint32(nil, uint32(f.Length))
	b = append(b, f.Version, f.Flags)
	b = binary.LittleEndian.AppendUint16(b, f.Type)
	for _, v := range []int32{f.Offset, f.Session, f.Stream, f.Term} {
		b = binary.LittleEndian.AppendUint32(b, uint32(v))
	}
	return binary.LittleEndian.AppendUint64(b, f.Reserved)
}

// wordsOf are those bytes, eight each.
func wordsOf(f api.Frame) [4]uint64 {
	var w [4]uint64
	for i := range w {
		w[i] = binary.LittleEndian.Uint64(bytesOf(f)[8*i:])
	}
	return w
}

// frames are ones of numbers that all differ, of numbers at their ends, and each with one number alone.
func frames() []api.Frame {
	l := []api.Frame{
		{},
		{Length: 33, Flags: api.FlagBegin | api.FlagEnd, Type: api.TypeData, Offset: 64, Session: 7, Stream: 9, Term: 5},
		{
			Length: 0x04030201, Version: 5, Flags: 6, Type: 0x0807, Offset: 0x0c0b0a09, Session: 0x100f0e0d,
			Stream: 0x14131211, Term: 0x18171615, Reserved: 0x201f1e1d1c1b1a19,
		},
		{
			Length: -1, Version: math.MaxUint8, Flags: math.MaxUint8, Type: math.MaxUint16, Offset: -1, Session: -1,
			Stream: -1, Term: -1, Reserved: math.MaxUint64,
		},
		{
			Length: math.MinInt32, Version: 0x80, Flags: 0x80, Type: 0x8000, Offset: math.MinInt32, Session: math.MinInt32,
			Stream: math.MinInt32, Term: math.MinInt32, Reserved: 1 << 63,
		},
		{
			Length: math.MaxInt32, Version: 0x7f, Flags: 0x7f, Type: 0x7fff, Offset: math.MaxInt32, Session: math.MaxInt32,
			Stream: math.MaxInt32, Term: math.MaxInt32, Reserved: math.MaxInt64,
		},
	}
	for _, v := range signed() {
		l = append(l, api.Frame{Length: v}, api.Frame{Offset: v}, api.Frame{Session: v}, api.Frame{Stream: v}, api.Frame{Term: v})
		l = append(l, api.Frame{Version: uint8(v)}, api.Frame{Flags: uint8(v)}, api.Frame{Type: uint16(v)})
		l = append(l, api.Frame{Reserved: uint64(v)}, api.Frame{Reserved: uint64(v) << 32})
	}
	return l
}

// P3.1: numbers written out by hand.
func TestWordsByHand(t *testing.T) {
	for _, x := range []struct {
		f    api.Frame
		want [4]uint64
	}{
		{api.Frame{}, [4]uint64{}},
		{
			api.Frame{Length: 33, Flags: api.FlagBegin | api.FlagEnd, Type: api.TypeData, Offset: 64, Session: 7, Stream: 9, Term: 5},
			[4]uint64{0x0001c00000000021, 0x0000000700000040, 0x0000000500000009, 0},
		},
		{
			api.Frame{
				Length: 0x04030201, Version: 5, Flags: 6, Type: 0x0807, Offset: 0x0c0b0a09, Session: 0x100f0e0d,
				Stream: 0x14131211, Term: 0x18171615, Reserved: 0x201f1e1d1c1b1a19,
			},
			[4]uint64{0x0807060504030201, 0x100f0e0d0c0b0a09, 0x1817161514131211, 0x201f1e1d1c1b1a19},
		},
		{
			api.Frame{Length: -2, Offset: -3, Session: 4, Stream: -5, Term: 6},
			[4]uint64{0x00000000fffffffe, 0x00000004fffffffd, 0x00000006fffffffb, 0},
		},
		{
			api.Frame{Length: 1, Offset: 4, Session: -3, Stream: 6, Term: -5},
			[4]uint64{1, 0xfffffffd00000004, 0xfffffffb00000006, 0},
		},
	} {
		if w := head.Words(x.f); w != x.want {
			t.Errorf("%+v: %#x, not %#x", x.f, w, x.want)
		}
		if f := head.Frame(x.want); f != x.f {
			t.Errorf("%#x: %+v, not %+v", x.want, f, x.f)
		}
	}
}

// P3.1: a frame's header, byte by byte.
func TestWordsBytes(t *testing.T) {
	for _, f := range frames() {
		if len(bytesOf(f)) != api.FrameHead {
			t.Fatal(len(bytesOf(f)))
		}
		if w := head.Words(f); w != wordsOf(f) {
			t.Errorf("%+v: %#x, not %#x", f, w, wordsOf(f))
		}
		if got := head.Frame(wordsOf(f)); got != f {
			t.Errorf("%+v: %+v", f, got)
		}
	}
}

// P3.1: each bit of a header stands in its own number, and in no other one.
func TestFrameOfEachBit(t *testing.T) {
	for i := range 8 * api.FrameHead {
		var w [4]uint64
		w[i/64] = 1 << (i % 64)
		var b [api.FrameHead]byte
		b[i/8] = 1 << (i % 8)
		want := api.Frame{
			Length:   int32(binary.LittleEndian.Uint32(b[0:])),
			Version:  b[4],
			Flags:    b[5],
			Type:     binary.LittleEndian.Uint16(b[6:]),
			Offset:   int32(binary.LittleEndian.Uint32(b[8:])),
			Session:  int32(binary.LittleEndian.Uint32(b[12:])),
			Stream:   int32(binary.LittleEndian.Uint32(b[16:])),
			Term:     int32(binary.LittleEndian.Uint32(b[20:])),
			Reserved: binary.LittleEndian.Uint64(b[24:]),
		}
		if f := head.Frame(w); f != want {
			t.Errorf("bit %d: %+v, not %+v", i, f, want)
		}
	}
}

// P3.2
func TestFrameTellsWhatItWasMadeOf(t *testing.T) {
	for _, f := range frames() {
		if got := head.Frame(head.Words(f)); got != f {
			t.Errorf("%+v: %+v", f, got)
		}
	}
	for i := range 8 * api.FrameHead {
		var w, others [4]uint64
		w[i/64] = 1 << (i % 64)
		for j := range others {
			others[j] = ^w[j]
		}
		for _, v := range [][4]uint64{w, others} {
			if got := head.Words(head.Frame(v)); got != v {
				t.Errorf("%#x: %#x", v, got)
			}
		}
	}
}

// P3.1
func TestFlags(t *testing.T) {
	for _, x := range []struct {
		begin, end bool
		want       uint8
	}{{false, false, 0}, {true, false, 128}, {false, true, 64}, {true, true, 192}} {
		if l := head.Flags(x.begin, x.end); l != x.want {
			t.Error(x, l)
		}
	}
}

// P3.1
func TestSizes(t *testing.T) {
	for _, x := range []struct{ n, record, frame int }{
		{0, 8, 32}, {1, 16, 64}, {7, 16, 64}, {8, 16, 64}, {9, 24, 64}, {16, 24, 64}, {17, 32, 64},
		{31, 40, 64}, {32, 40, 64}, {33, 48, 96}, {64, 72, 96}, {65, 80, 128},
		{api.MaxBuffer - 32, 131048, 131072}, {api.MaxBuffer - 31, 131056, 131104},
		{api.MaxBuffer - 8, 131072, 131104}, {api.MaxBuffer - 7, 131080, 131104},
		{api.MaxBuffer - 1, 131080, 131104}, {api.MaxBuffer, 131080, 131104},
	} {
		if v, e := head.RecordSize(x.n); v != x.record || e != api.OK {
			t.Error("record", x, v, e)
		}
		if v, e := head.FrameSize(x.n); v != x.frame || e != api.OK {
			t.Error("frame", x, v, e)
		}
	}
}

// P3.1: of each n that may be, the least multiple that holds the header and n bytes.
func TestSizesOfAll(t *testing.T) {
	record, frame := 8, 32
	for n := range api.MaxBuffer + 1 {
		if record < n+8 {
			record += 8
		}
		if frame < n+32 {
			frame += 32
		}
		if v, e := head.RecordSize(n); v != record || e != api.OK {
			t.Fatal("record", n, v, e)
		}
		if v, e := head.FrameSize(n); v != frame || e != api.OK {
			t.Fatal("frame", n, v, e)
		}
	}
}

// P3.1
func TestSizesRefuse(t *testing.T) {
	for _, n := range []int{
		-1, -7, -8, -9, -31, -32, -33, -api.MaxBuffer, math.MinInt32, math.MinInt, math.MinInt + 8,
		api.MaxBuffer + 1, api.MaxBuffer + 8, api.MaxBuffer + 32, 2 * api.MaxBuffer, math.MaxInt32, 1 << 40, 1 << 62,
		math.MaxInt - 31, math.MaxInt - 7, math.MaxInt,
	} {
		if v, e := head.RecordSize(n); v != 0 || e != api.ErrArg {
			t.Error("record", n, v, e)
		}
		if v, e := head.FrameSize(n); v != 0 || e != api.ErrArg {
			t.Error("frame", n, v, e)
		}
	}
}
