package ring_test

import (
	"bytes"
	"math"
	"slices"
	"testing"

	"millstream/api"
	"millstream/membuf"
	"millstream/ring"
	"millstream/ringput"
	"millstream/sched"
)

// fresh is a buffer for a ring, whose bytes are 0, to its last byte, and whose numbers are all as they are told.
func fresh(t *testing.T, r api.Ring, all int64) *membuf.Buffer {
	t.Helper()
	b, e := membuf.New(r.Base + r.Size + ringput.RingTail)
	if e != api.OK {
		t.Fatal(e)
	}
	for i := range 3 {
		b.Do(store(r.Base+r.Size+8*i, uint64(all)))
	}
	return b
}

// goOn does a machine's next access, if it isn't at its end; none is refused.
func goOn(t *testing.T, b *membuf.Buffer, m sched.Machine) bool {
	t.Helper()
	a, ok := m.Next()
	if !ok {
		return false
	}
	x, e := b.Do(a)
	if e != api.OK {
		t.Fatal(a, e)
	}
	m.Take(x)
	return true
}

// run does all of a machine's accesses.
func run(t *testing.T, b *membuf.Buffer, m sched.Machine) {
	t.Helper()
	for range 1 << 20 {
		if !goOn(t, b, m) {
			return
		}
	}
	t.Fatal("no end")
}

// tail and head are a ring's numbers.
func tail(t *testing.T, b *membuf.Buffer, r api.Ring) int64 { return loaded(t, b, r.Base+r.Size) }

func head(t *testing.T, b *membuf.Buffer, r api.Ring) int64 { return loaded(t, b, r.Base+r.Size+16) }

func loaded(t *testing.T, b *membuf.Buffer, at int) int64 {
	t.Helper()
	x, e := b.Do(load(at))
	if e != api.OK {
		t.Fatal(e)
	}
	return int64(x.V)
}

// P10.2: the chapter's example, by every schedule: one, both or none come, in order, and what is left comes then.
func TestExample(t *testing.T) {
	r := api.Ring{Size: 64}
	l := []api.Message{message(1, 0), message(2, 0)}
	var ends [3]int
	// A schedule is the moments, by their bits, at which the drainer goes on.
	for moments := range 1 << 17 {
		b := fresh(t, r, 0)
		f, d := ring.Fill(r, l, 0), ring.Drain(r, 1, 9)
		for i := range 17 {
			m := sched.Machine(f)
			if moments>>i&1 == 1 {
				m = d
			}
			if !goOn(t, b, m) {
				break
			}
		}
		run(t, b, f)
		run(t, b, d)
		got := d.Messages()
		if !same(got, l[:len(got)]) {
			t.Fatal(moments, got)
		}
		did(t, f, api.OK, api.OK)
		ends[len(got)]++
		rest := ring.Drain(r, 1, 9)
		run(t, b, rest)
		if !same(append(got, rest.Messages()...), l) {
			t.Fatal(moments, got, rest.Messages())
		}
	}
	if slices.Min(ends[:]) == 0 {
		t.Error(ends)
	}
}

// P10.2: two fillers, by every schedule: what was put comes, in the order of positions.
func TestTwoFillers(t *testing.T) {
	r := api.Ring{Size: 64}
	lost := 0
	for moments := range 1 << 12 {
		b := fresh(t, r, 0)
		l := []*ring.Filler{ring.Fill(r, []api.Message{message(1, 0)}, 0), ring.Fill(r, []api.Message{message(2, 8)}, 0)}
		n := 0
		for i := range 12 {
			if goOn(t, b, l[moments>>i&1]) {
				n++
			}
		}
		for _, f := range l {
			for goOn(t, b, f) {
				n++
			}
			did(t, f, api.OK)
		}
		if n > 11 {
			lost++ // a claim: it took two more steps
		}
		d := ring.Drain(r, 1, 9)
		run(t, b, d)
		want := []api.Message{message(1, 0), message(2, 8)}
		if l[0].Places()[0] > l[1].Places()[0] {
			slices.Reverse(want)
		}
		has(t, d, want...)
	}
	if lost == 0 {
		t.Error("no claim was lost")
	}
}

// A play is a ring that fillers fill, that drainers drain and a mender fixes, all of them in turns; some of the fillers are killed.
type play struct {
	t *testing.T
	c *chance
	b *membuf.Buffer
	w *sched.World
	r api.Ring

	fillers  []*ring.Filler
	asked    [][]api.Message // of each filler
	drainers []*ring.Drainer
	draining int // the drainer whose turn it is: one gets at a time
	mender   *ring.Mender

	got []api.Message
}

// newPlay is a play; of each filler's messages the types tell the filler and the message.
func newPlay(t *testing.T, c *chance) *play {
	r := api.Ring{Base: 8 * c.below(4), Size: api.MinRing << c.below(4)}
	at := []int64{0, -64, math.MaxInt64 - 255, math.MinInt64 + 512, 40}[c.below(5)] / 8 * 8
	p := &play{t: t, c: c, b: fresh(t, r, at), r: r, mender: ring.Mend(r, api.MaxOps)}
	var l []sched.Machine
	for i := range 1 + c.below(5) {
		var m []api.Message
		for j := range c.below(12) {
			m = append(m, message(int32(1000*(i+1)+j), c.below(r.Size/8+1)))
		}
		p.asked = append(p.asked, m)
		p.fillers = append(p.fillers, ring.Fill(r, m, c.below(40)))
		l = append(l, p.fillers[i])
	}
	for range 1 + c.below(3) {
		d := ring.Drain(r, api.MaxOps, 1+c.below(4))
		p.drainers = append(p.drainers, d)
		l = append(l, d)
	}
	p.w = sched.New(p.b, append(l, p.mender))
	return p
}

// step lets an actor do a step.
func (p *play) step(i int) {
	if _, e := p.w.Pick(api.Pick{Actor: i}); e != api.OK && e != api.ErrDead {
		p.t.Fatal(i, e)
	}
}

// finish lets the fillers that live go on to their ends, one behind the other.
func (p *play) finish() {
	for i := range p.fillers {
		for n := 0; !p.w.Ended(i) && !p.w.Dead(i); n++ {
			if n > 1<<16 {
				p.t.Fatal("no end")
			}
			p.step(i)
		}
	}
}

// between asks whether a drainer, or a mender, is between two gets, or two fixes: each of those begins with the head.
func (p *play) between(m sched.Machine) bool {
	a, ok := m.Next()
	return !ok || a.Kind == api.Load && a.At == p.r.Base+p.r.Size+16
}

// drain lets a drainer do a step: the one whose turn it is, or another one, where that is between two gets.
func (p *play) drain() {
	if p.between(p.drainers[p.draining]) {
		p.draining = p.c.below(len(p.drainers))
	}
	d := p.drainers[p.draining]
	n := len(d.Messages())
	p.step(len(p.fillers) + p.draining)
	p.got = append(p.got, d.Messages()[n:]...)
}

// drainAll drains what is there, by a drainer that comes when all others are between two gets, or at their end.
func (p *play) drainAll() {
	for !p.between(p.drainers[p.draining]) {
		p.drain()
	}
	for {
		from := head(p.t, p.b, p.r)
		d := ring.Drain(p.r, 1, 3)
		run(p.t, p.b, d)
		p.got = append(p.got, d.Messages()...)
		if head(p.t, p.b, p.r) == from {
			return
		}
	}
}

// claimed asks whether a filler that lives stands between a claim and its message's last step: by the messages' access that it is at.
func (p *play) claimed() bool {
	first := p.r.Base + p.r.Size
	for i, f := range p.fillers {
		if a, ok := f.Next(); ok && !p.w.Dead(i) && a.At < first {
			return true
		}
	}
	return false
}

// mend fixes the ring, if it stands still where nobody that puts will go on; meanwhile others take turns.
func (p *play) mend() int {
	n := p.mender.Bytes()
	if p.claimed() {
		return 0
	}
	p.drainAll()
	if head(p.t, p.b, p.r) == tail(p.t, p.b, p.r) {
		return 0 // who claims next will go on
	}
	for i := 0; ; i++ {
		if _, ok := p.mender.Next(); !ok || i > 0 && p.between(p.mender) {
			return p.mender.Bytes() - n
		}
		p.step(len(p.fillers) + len(p.drainers))
		if p.c.below(2) == 0 {
			p.drain()
		}
		if len(p.fillers) > 0 && p.c.below(2) == 0 {
			p.step(p.c.below(len(p.fillers)))
		}
	}
}

// placed is a message that was put, and its position.
type placed struct {
	at int64
	m  api.Message
}

// puts are what was put whole, in the order of positions.
func (p *play) puts() []placed {
	var l []placed
	for i, f := range p.fillers {
		at := f.Places()
		for j, e := range f.Done() {
			if e == api.OK {
				l = append(l, placed{at[0], p.asked[i][j]})
				at = at[1:]
			}
		}
		if len(at) > 0 {
			p.t.Fatal("places", at)
		}
	}
	slices.SortFunc(l, func(x, y placed) int {
		if x.at-y.at < 0 { // positions go round
			return -1
		}
		return 1
	})
	return l
}

// holds asks whether what was drained is what was put, whole, each once, in the order of positions, up to the head; and of each filler in its order.
func (p *play) holds() {
	p.t.Helper()
	end := head(p.t, p.b, p.r)
	var want []api.Message
	for _, x := range p.puts() {
		if x.at-end < 0 {
			want = append(want, x.m)
		}
	}
	if !same(p.got, want) {
		p.t.Fatal(p.got, "not", want)
	}
	last := make([]int32, len(p.fillers)+1)
	for _, m := range p.got {
		i := m.Type / 1000
		if m.Type <= last[i] {
			p.t.Fatal("not in the filler's order", m.Type, last[i])
		}
		last[i] = m.Type
	}
}

// P10.2, P10.3: many fillers, and drainers that get one at a time; none stops, and nothing is fixed: all that was put comes.
func TestManyInTurns(t *testing.T) {
	messages, refused := 0, 0
	for start := range 600 {
		c := chance(start)
		p := newPlay(t, &c)
		often := 2 + c.below(6)
		for range 2000 {
			if c.below(often) == 0 {
				p.drain()
			} else {
				p.step(c.below(len(p.fillers)))
			}
		}
		p.finish()
		for i, f := range p.fillers {
			if n := len(f.Done()); n != len(p.asked[i]) || !p.w.Ended(i) {
				t.Fatal(start, "no end", n)
			}
			for _, e := range f.Done() {
				if e == api.ErrFull {
					refused++
				} else if e != api.OK {
					t.Fatal(start, e)
				}
			}
		}
		p.drainAll()
		p.holds()
		if len(p.got) != len(p.puts()) || head(t, p.b, p.r) != tail(t, p.b, p.r) {
			t.Fatal(start, len(p.got), "of", len(p.puts()))
		}
		if all := p.b.Bytes()[p.r.Base:][:p.r.Size]; !bytes.Equal(all, make([]byte, p.r.Size)) {
			t.Fatal(start, all)
		}
		messages += len(p.got)
	}
	if messages < 3000 || refused < 300 {
		t.Error("too few", messages, refused)
	}
}

// P10.2, P10.3: some fillers are killed at any of their steps; where those let the ring stand still the mender fixes it, while others go on.
func TestSomeAreKilled(t *testing.T) {
	killed, fixed, through := 0, 0, 0
	for start := range 1500 {
		c := chance(start)
		p := newPlay(t, &c)
		often, kills := 2+c.below(6), 40+c.below(300)
		for range 1500 {
			i := c.below(len(p.fillers))
			switch {
			case c.below(kills) == 0:
				p.w.Silence(i)
				killed++
			case c.below(30) == 0:
				fixed += p.mend()
			case c.below(often) == 0:
				p.drain()
			default:
				p.step(i)
			}
		}
		p.finish()
		for range api.MaxOps {
			p.drainAll()
			p.holds()
			fixed += p.mend()
		}
		p.drainAll()
		p.holds()
		if head(t, p.b, p.r) == tail(t, p.b, p.r) {
			through++
			if len(p.got) != len(p.puts()) {
				t.Fatal(start, len(p.got), "of", len(p.puts()))
			}
		}
	}
	if killed < 500 || fixed < 5000 || through < 500 {
		t.Error("too few", killed, fixed, through)
	}
}

// P10.2: a filler that stops for ever behind each of its steps, with something behind it: what was put whole comes, in order, and nothing else.
func TestStopsAtEachStep(t *testing.T) {
	r := api.Ring{Base: 8, Size: 128}
	lengths := []int{3, 16, 0}
	for stop := range 20 {
		b := fresh(t, r, 0)
		f := ring.Fill(r, []api.Message{message(1, 3), message(2, 16), message(3, 0)}, 0)
		for range stop {
			goOn(t, b, f)
		}
		run(t, b, ring.Fill(r, []api.Message{message(4, 8), message(5, 0)}, 0))
		d, m := ring.Drain(r, 3, 9), ring.Mend(r, 1)
		run(t, b, d)
		run(t, b, m)
		behind := ring.Drain(r, 3, 9)
		run(t, b, behind)
		var want []api.Message
		for i := range f.Done() {
			want = append(want, message(int32(i+1), lengths[i]))
		}
		want = append(want, message(4, 8), message(5, 0))
		if got := append(d.Messages(), behind.Messages()...); !same(got, want) {
			t.Fatal(stop, got, "not", want)
		}
		if (m.Bytes() > 0) != (len(behind.Messages()) > 0) || head(t, b, r) != tail(t, b, r) {
			t.Fatal(stop, m.Bytes(), behind.Messages())
		}
	}
}

// P10.3: one filler alone, with a drainer in turns: its messages come in its order, all that weren't refused.
func TestOneFiller(t *testing.T) {
	for start := range 500 {
		c := chance(start)
		r := api.Ring{Size: api.MinRing << c.below(2)}
		var l []api.Message
		for i := range api.MaxOps {
			l = append(l, message(int32(i+1), c.below(r.Size/8+1)))
		}
		b := fresh(t, r, 0)
		f, d := ring.Fill(r, l, c.below(100)), ring.Drain(r, api.MaxOps, 1+c.below(3))
		often := 2 + c.below(10)
		for busy := true; busy; {
			if c.below(often) == 0 {
				goOn(t, b, d)
			} else {
				busy = goOn(t, b, f)
			}
		}
		run(t, b, d)
		got := d.Messages()
		for i := range 2 {
			x := ring.Drain(r, api.MaxOps, 64)
			run(t, b, x)
			got = append(got, x.Messages()...)
			if i == 1 {
				has(t, x)
			}
		}
		var want []api.Message
		for i, e := range f.Done() {
			if e == api.OK {
				want = append(want, l[i])
			}
		}
		if !same(got, want) || len(f.Done()) != len(l) {
			t.Fatal(start, got, "not", want)
		}
	}
}
