package sched_test

import (
	"bytes"
	"math"
	"reflect"
	"testing"

	"millstream/api"
	"millstream/copies"
	"millstream/membuf"
	"millstream/sched"
)

const (
	most = 1 << 16 // more steps than any world here has
	far  = 1 << 40 // by how much a tick lets the clock go on at most
)

// player does accesses in order, and keeps what it is told.
type player struct {
	left []api.Access
	told []api.Answer
}

func (p *player) Next() (api.Access, bool) {
	if len(p.left) == 0 {
		return api.Access{}, false
	}
	return p.left[0], true
}

func (p *player) Take(x api.Answer) {
	p.told = append(p.told, x)
	p.left = p.left[1:]
}

// listener is a player that is told the clock.
type listener struct {
	player
	clocks []int64
}

func (l *listener) Tick(now int64) { l.clocks = append(l.clocks, now) }

// play is a player of accesses.
func play(l ...api.Access) *player { return &player{left: l} }

// fresh is a buffer whose bytes are 0.
func fresh(t *testing.T, size int) *membuf.Buffer {
	t.Helper()
	b, e := membuf.New(size)
	if e != api.OK {
		t.Fatal(size, e)
	}
	return b
}

// world is a new world, and its buffer.
func world(t *testing.T, size int, l ...sched.Machine) (*sched.World, *membuf.Buffer) {
	t.Helper()
	b := fresh(t, size)
	w := sched.New(b, l)
	if w == nil || w.Clock() != 0 || len(w.Trace()) != 0 {
		t.Fatal("a new world", w == nil, w.Clock(), w.Trace())
	}
	for i := range l {
		if w.Dead(i) {
			t.Fatal("dead", i)
		}
	}
	return w, b
}

func step(i int) api.Pick   { return api.Pick{Kind: api.PickStep, Actor: i} }
func kill(i int) api.Pick   { return api.Pick{Kind: api.PickKill, Actor: i} }
func tick(n int64) api.Pick { return api.Pick{Kind: api.PickTick, N: n} }

// add is an access that adds 1, and load one that looks at eight bytes.
func add(at int) api.Access  { return api.Access{Kind: api.Add, At: at, N: 8, V: 1} }
func load(at int) api.Access { return api.Access{Kind: api.Load, At: at, N: 8} }

// adds is a player that adds 1 at a place so many times.
func adds(at, n int) *player {
	p := play()
	for range n {
		p.left = append(p.left, add(at))
	}
	return p
}

// plain is an event whose lists are nil where they are empty: both mean the same.
func plain(v api.Event) api.Event {
	if len(v.Access.B) == 0 {
		v.Access.B = nil
	}
	if len(v.Answer.B) == 0 {
		v.Answer.B = nil
	}
	return v
}

func same(v, u api.Event) bool { return reflect.DeepEqual(plain(v), plain(u)) }

// must does a pick that may be, and holds its event against what is asked.
func must(t *testing.T, w *sched.World, p api.Pick, a api.Access, x api.Answer) {
	t.Helper()
	want := api.Event{Pick: p, Access: a, Answer: x}
	if v, e := w.Pick(p); e != api.OK || !same(v, want) {
		t.Fatal(p, v, e, "not", want)
	}
}

// bare does a pick that does no access.
func bare(t *testing.T, w *sched.World, p api.Pick) {
	t.Helper()
	must(t, w, p, api.Access{}, api.Answer{})
}

// refused does a pick that may not be.
func refused(t *testing.T, w *sched.World, p api.Pick, want api.Errno) {
	t.Helper()
	if v, e := w.Pick(p); e != want || !same(v, api.Event{}) {
		t.Fatal(p, v, e, "not", want)
	}
}

// traced holds a world's trace against events.
func traced(t *testing.T, w *sched.World, want []api.Event) {
	t.Helper()
	l := w.Trace()
	if len(l) != len(want) {
		t.Fatal(l, "not", want)
	}
	for i, v := range l {
		if !same(v, want[i]) {
			t.Fatal(i, v, "not", want[i])
		}
	}
}

// actors are which actors a trace's events tell.
func actors(l []api.Event) []int {
	var who []int
	for _, v := range l {
		who = append(who, v.Pick.Actor)
	}
	return who
}

// P6.1: the chapter's example.
func TestExample(t *testing.T) {
	w, _ := world(t, 8)
	bare(t, w, tick(5))
	if w.Clock() != 5 {
		t.Error(w.Clock())
	}
}

// P6.1: a step does the next access to the buffer, and the machine is told what that tells.
func TestSteps(t *testing.T) {
	l := []api.Access{
		{Kind: api.Store, At: 8, N: 8, V: 0x0807060504030201},
		{Kind: api.Load, At: 8, N: 4},
		{Kind: api.Add, At: 0, N: 8, V: 5},
		{Kind: api.Add, At: 0, N: 8, V: 5},
		{Kind: api.Cas, At: 0, N: 8, V: 10, W: 77},
		{Kind: api.Cas, At: 0, N: 4, V: 10, W: 78},
		{Kind: api.Write, At: 3, N: 3, B: []byte("abc")},
		{Kind: api.Read, At: 2, N: 5},
		{Kind: api.Read, At: 16},
		{Kind: api.Write, At: 16},
	}
	told := []api.Answer{
		{}, {V: 0x04030201}, {}, {V: 5}, {V: 10, Done: true}, {V: 77},
		{}, {B: []byte{0, 'a', 'b', 'c', 0}}, {}, {},
	}
	p := play(l...)
	w, b := world(t, 16, nil, p)
	var want []api.Event
	for i, a := range l {
		if w.Ended(1) {
			t.Error("at its end", i)
		}
		must(t, w, step(1), a, told[i])
		if b.Count() != int64(i+1) || len(p.told) != i+1 {
			t.Fatal(i, b.Count(), len(p.told))
		}
		want = append(want, api.Event{Pick: step(1), Access: a, Answer: told[i]})
		if !same(api.Event{Answer: p.told[i]}, api.Event{Answer: told[i]}) {
			t.Error(i, p.told[i], "not", told[i])
		}
		traced(t, w, want)
	}
	bytesAre := []byte{77, 0, 0, 'a', 'b', 'c', 0, 0, 1, 2, 3, 4, 5, 6, 7, 8}
	if !w.Ended(1) || w.Dead(1) || w.Clock() != 0 || !bytes.Equal(b.Bytes(), bytesAre) {
		t.Error(w.Ended(1), w.Dead(1), w.Clock(), b.Bytes())
	}
}

// P6.1: a step of one that is at its end, and of one that is nil, is an event without an access, and in the trace.
func TestStepsAtTheEnd(t *testing.T) {
	p, none := play(add(0)), (*copies.Copy)(nil)
	w, b := world(t, 8, p, nil, none, copies.In(0, nil))
	must(t, w, step(0), add(0), api.Answer{})
	want := []api.Event{{Pick: step(0), Access: add(0)}}
	for range 3 {
		for i := range 4 {
			if !w.Ended(i) || w.Dead(i) {
				t.Error(i, w.Ended(i), w.Dead(i))
			}
			bare(t, w, step(i))
			want = append(want, api.Event{Pick: step(i)})
		}
	}
	traced(t, w, want)
	if b.Count() != 1 || len(p.told) != 1 {
		t.Error(b.Count(), p.told)
	}
}

// P6.1: which picks may not be, and which error is named first; what was refused changed nothing.
func TestPickRefuses(t *testing.T) {
	ear := &listener{player: *adds(0, 3)}
	w, b := world(t, 16, ear, adds(8, 3), adds(8, 3))
	bare(t, w, kill(1))
	bare(t, w, tick(7))
	must(t, w, step(0), add(0), api.Answer{})
	was, numbers := w.Trace(), []int64{0, 1, 5, far, far + 1, -1, math.MaxInt64, math.MinInt64}
	for _, n := range numbers {
		for _, i := range []int{0, 1, 2, -1, 3, math.MaxInt, math.MinInt} {
			for _, kind := range []int{-1, 3, 4, 99, math.MaxInt, math.MinInt, 1 << 32} {
				refused(t, w, api.Pick{Kind: kind, Actor: i, N: n}, api.ErrArg)
			}
		}
		for _, kind := range []int{api.PickStep, api.PickKill} {
			for _, i := range []int{-1, -2, 3, 4, 16, math.MaxInt, math.MinInt, 1 << 32} {
				refused(t, w, api.Pick{Kind: kind, Actor: i, N: n}, api.ErrRange)
			}
			refused(t, w, api.Pick{Kind: kind, Actor: 1, N: n}, api.ErrDead)
		}
	}
	for _, n := range []int64{-1, -2, -far, math.MinInt64, far + 1, 2 * far, math.MaxInt64} {
		for _, i := range []int{0, 1, -1, 99} {
			refused(t, w, api.Pick{Kind: api.PickTick, Actor: i, N: n}, api.ErrArg)
		}
	}
	traced(t, w, was)
	if w.Clock() != 7 || b.Count() != 1 || len(ear.told) != 1 || len(ear.clocks) != 1 || w.Dead(0) || !w.Dead(1) || w.Dead(2) {
		t.Error(w.Clock(), b.Count(), ear, w.Dead(0), w.Dead(1), w.Dead(2))
	}
}

// P6.1: what a kind of pick doesn't speak of counts for nothing; the event has the pick as it was.
func TestEventsHaveThePick(t *testing.T) {
	w, _ := world(t, 8, adds(0, 9), adds(0, 9))
	var want []api.Event
	note := func(p api.Pick, a api.Access, x api.Answer) {
		must(t, w, p, a, x)
		want = append(want, api.Event{Pick: p, Access: a, Answer: x})
	}
	for i, n := range []int64{3, -1, far + 1, math.MinInt64, math.MaxInt64} {
		note(api.Pick{Kind: api.PickStep, Actor: 1, N: n}, add(0), api.Answer{V: uint64(i)})
	}
	for _, i := range []int{1, 2, -1, math.MaxInt, math.MinInt} {
		note(api.Pick{Kind: api.PickTick, Actor: i, N: 2}, api.Access{}, api.Answer{})
	}
	note(api.Pick{Kind: api.PickKill, Actor: 1, N: -9}, api.Access{}, api.Answer{})
	note(api.Pick{Kind: api.PickTick, Actor: 1, N: 2}, api.Access{}, api.Answer{})
	traced(t, w, want)
	if w.Clock() != 12 {
		t.Error(w.Clock())
	}
}

// P6.1: each that has Tick is told the clock, at its end or not; those that were killed aren't.
func TestTicks(t *testing.T) {
	var l []*listener
	for range 6 {
		l = append(l, &listener{player: *adds(0, 2)})
	}
	l[1].left = nil
	l[4].left = []api.Access{load(4)}
	w, b := world(t, 16, l[0], adds(0, 1), l[1], nil, l[2], l[3], l[4], l[5])
	clocks := []int64{0, 5, 5, 5 + far, 6 + far}
	for i, n := range []int64{0, 5, 0, far, 1} {
		switch i {
		case 2:
			bare(t, w, kill(4))
		case 3:
			w.Silence(5)
		case 4:
			refused(t, w, step(6), api.ErrAlign)
		}
		bare(t, w, tick(n))
		if w.Clock() != clocks[i] {
			t.Error(i, w.Clock())
		}
	}
	for i, n := range []int{5, 5, 2, 3, 4, 5} {
		if !reflect.DeepEqual(l[i].clocks, clocks[:n]) {
			t.Error(i, l[i].clocks, "not", clocks[:n])
		}
	}
	if b.Count() != 0 {
		t.Error("a tick did an access")
	}
}

// P6.1: whoever is alone with the clock: no actors, and nobody that is told.
func TestTicksOfNobody(t *testing.T) {
	for _, l := range [][]sched.Machine{nil, {}, {nil, adds(0, 1), copies.Out(0, 8)}} {
		w, _ := world(t, 8, l...)
		for i := range 4 {
			bare(t, w, tick(far))
			if w.Clock() != int64(i+1)*far {
				t.Error(w.Clock())
			}
		}
		if len(w.Trace()) != 4 {
			t.Error(w.Trace())
		}
	}
}

// P6.1, P6.2: who was killed is dead, and stays so; it never steps again, and others go on.
func TestKills(t *testing.T) {
	one, other := adds(0, 5), adds(0, 5)
	w, b := world(t, 8, one, other, play(), nil)
	must(t, w, step(0), add(0), api.Answer{})
	for _, i := range []int{0, 2, 3} {
		bare(t, w, kill(i))
		for range 3 {
			refused(t, w, step(i), api.ErrDead)
			refused(t, w, kill(i), api.ErrDead)
		}
		if !w.Dead(i) || w.Dead(1) {
			t.Error(i, w.Dead(i), w.Dead(1))
		}
	}
	must(t, w, step(1), add(0), api.Answer{V: 1})
	if n := w.Robin(most); n != 4 || b.Count() != 6 || len(one.told) != 1 || len(other.told) != 5 {
		t.Error(n, b.Count(), one.told, other.told)
	}
	if w.Ended(0) || !w.Ended(1) || !w.Ended(2) || !w.Ended(3) {
		t.Error(w.Ended(0), w.Ended(1), w.Ended(2), w.Ended(3))
	}
	if who := actors(w.Trace()); !reflect.DeepEqual(who, []int{0, 0, 2, 3, 1, 1, 1, 1, 1}) {
		t.Error(who)
	}
}

// P6.1: an access that may not be: the buffer's error, and the actor is killed; it isn't told, and the trace doesn't tell it.
func TestRefusedAccessKills(t *testing.T) {
	for _, x := range []struct {
		a    api.Access
		want api.Errno
	}{
		{api.Access{}, api.ErrArg},
		{api.Access{Kind: 7, N: 8}, api.ErrArg},
		{api.Access{Kind: -1, At: 99, N: 8}, api.ErrArg},
		{api.Access{Kind: api.Load, At: 1, N: 2}, api.ErrArg},
		{api.Access{Kind: api.Write, N: 9, B: make([]byte, 9)}, api.ErrArg},
		{api.Access{Kind: api.Write, N: 1}, api.ErrArg},
		{api.Access{Kind: api.Read, N: math.MinInt}, api.ErrArg},
		{api.Access{Kind: api.Add, N: 4, V: 1}, api.ErrArg},
		{api.Access{Kind: api.Store, At: 16, N: 8, V: 1}, api.ErrRange},
		{api.Access{Kind: api.Store, At: -8, N: 8, V: 1}, api.ErrRange},
		{api.Access{Kind: api.Write, At: 15, N: 2, B: []byte{1, 2}}, api.ErrRange},
		{api.Access{Kind: api.Add, At: 4, N: 8, V: 1}, api.ErrAlign},
		{api.Access{Kind: api.Cas, At: 2, N: 4, W: 1}, api.ErrAlign},
	} {
		p, other := play(add(0), x.a, add(0)), adds(8, 3)
		w, b := world(t, 16, p, other)
		must(t, w, step(0), add(0), api.Answer{})
		must(t, w, step(1), add(8), api.Answer{})
		was := w.Trace()
		refused(t, w, step(0), x.want)
		traced(t, w, was)
		if !w.Dead(0) || w.Dead(1) || w.Ended(0) || len(p.told) != 1 || b.Count() != 2 {
			t.Fatal(x.a, w.Dead(0), w.Dead(1), w.Ended(0), p.told, b.Count())
		}
		refused(t, w, step(0), api.ErrDead)
		refused(t, w, kill(0), api.ErrDead)
		must(t, w, step(1), add(8), api.Answer{V: 1})
		if n := w.Robin(most); n != 1 || len(p.told) != 1 || b.Count() != 4 {
			t.Fatal(x.a, n, p.told, b.Count())
		}
	}
}

// P6.1: the events of those picks that answered OK, in order; whoever was refused, all others are picked.
func TestRun(t *testing.T) {
	bad := play(add(8), load(3))
	w, b := world(t, 16, adds(0, 2), bad)
	picks := []api.Pick{
		step(0), step(2), step(1), {Kind: 3}, tick(4), step(1), step(1), tick(-1), kill(1),
		step(0), step(-1), step(0), kill(0), step(0), tick(1),
	}
	want := []api.Event{
		{Pick: step(0), Access: add(0)},
		{Pick: step(1), Access: add(8)},
		{Pick: tick(4)},
		{Pick: step(0), Access: add(0), Answer: api.Answer{V: 1}},
		{Pick: step(0)},
		{Pick: kill(0)},
		{Pick: tick(1)},
	}
	l := w.Run(picks)
	if len(l) != len(want) {
		t.Fatal(l, "not", want)
	}
	for i, v := range l {
		if !same(v, want[i]) {
			t.Error(i, v, "not", want[i])
		}
	}
	traced(t, w, want)
	if w.Clock() != 5 || b.Count() != 3 || !w.Dead(0) || !w.Dead(1) {
		t.Error(w.Clock(), b.Count(), w.Dead(0), w.Dead(1))
	}
	for _, l := range [][]api.Pick{nil, {}, {{Kind: 9}, step(0), kill(1), step(7)}} {
		if got := w.Run(l); len(got) != 0 {
			t.Error(l, got)
		}
	}
	traced(t, w, want)
}

// P6.1: more picks than a script may have.
func TestRunOfMany(t *testing.T) {
	const n = 3*api.MaxPicks + 1
	w, b := world(t, 8, adds(0, n))
	picks := make([]api.Pick, n+2)
	l := w.Run(picks)
	if len(l) != n+2 || len(w.Trace()) != n+2 || b.Count() != n || l[n-1].Answer.V != n-1 || l[n].Access.Kind != 0 {
		t.Error(len(l), len(w.Trace()), b.Count())
	}
}

// P6.1: round by round, in order, those that live and aren't at their end, till none is left.
func TestRobin(t *testing.T) {
	l := []*player{adds(0, 2), adds(0, 0), adds(0, 4), adds(0, 9), adds(0, 1)}
	w, b := world(t, 8, l[0], nil, l[1], l[2], l[3], l[4])
	bare(t, w, kill(4))
	if n := w.Robin(most); n != 7 || b.Count() != 7 {
		t.Error(n, b.Count())
	}
	want := []api.Event{{Pick: kill(4)}}
	for i, who := range []int{0, 3, 5, 0, 3, 3, 3} {
		want = append(want, api.Event{Pick: step(who), Access: add(0), Answer: api.Answer{V: uint64(i)}})
	}
	traced(t, w, want)
	for i, n := range []int{2, 0, 4, 0, 1} {
		if len(l[i].told) != n {
			t.Error(i, l[i].told)
		}
	}
	if n := w.Robin(most); n != 0 || w.Clock() != 0 {
		t.Error(n, w.Clock())
	}
	traced(t, w, want)
}

// P6.1: at most so many steps; the next call begins with the first actor again.
func TestRobinsMost(t *testing.T) {
	w, b := world(t, 8, adds(0, 3), adds(0, 5), adds(0, 2))
	var want []int
	for _, x := range []struct {
		most, n int
		who     []int
	}{
		{0, 0, nil},
		{-1, 0, nil},
		{math.MinInt, 0, nil},
		{1, 1, []int{0}},
		{1, 1, []int{0}},
		{4, 4, []int{0, 1, 2, 1}},
		{2, 2, []int{1, 2}},
		{0, 0, nil},
		{2, 2, []int{1, 1}},
		{2, 0, nil},
		{math.MaxInt, 0, nil},
	} {
		want = append(want, x.who...)
		if n := w.Robin(x.most); n != x.n || b.Count() != int64(len(want)) {
			t.Error(x.most, n, "not", x.n, b.Count())
		}
		if who := actors(w.Trace()); !reflect.DeepEqual(who, want) {
			t.Fatal(x.most, who, "not", want)
		}
	}
}

// P6.1: as many as are left is as many as may be, and one fewer.
func TestRobinOfExactlySoMany(t *testing.T) {
	for n, want := range []int{0, 1, 2, 3, 4, 5, 6, 6, 6} {
		w, b := world(t, 8, adds(0, 4), adds(0, 2))
		if did := w.Robin(n); did != want || b.Count() != int64(want) || len(w.Trace()) != want {
			t.Error(n, did, b.Count(), len(w.Trace()))
		}
	}
}

// P6.1: a step that the buffer refuses is one of them; the trace doesn't tell it, and the others go on.
func TestRobinIsRefused(t *testing.T) {
	makeWorld := func() (*sched.World, *membuf.Buffer) {
		return world(t, 8, adds(0, 3), play(add(0), load(4), add(0)), play(load(8)), adds(0, 2))
	}
	w, b := makeWorld()
	if n := w.Robin(most); n != 8 || b.Count() != 6 {
		t.Error(n, b.Count())
	}
	if who := actors(w.Trace()); !reflect.DeepEqual(who, []int{0, 1, 3, 0, 3, 0}) {
		t.Error(who)
	}
	if w.Dead(0) || !w.Dead(1) || !w.Dead(2) || w.Dead(3) || w.Ended(1) || w.Ended(2) {
		t.Error(w.Dead(0), w.Dead(1), w.Dead(2), w.Dead(3), w.Ended(1), w.Ended(2))
	}
	for n, did := range []int64{0, 1, 2, 2, 3, 4, 4, 5, 6, 6} {
		w, b := makeWorld()
		if got := w.Robin(n); got != min(n, 8) || b.Count() != did {
			t.Error(n, got, b.Count(), "not", did)
		}
	}
	w, _ = world(t, 8, play(load(1)))
	if n := w.Robin(most); n != 1 || len(w.Trace()) != 0 || !w.Dead(0) {
		t.Error(n, w.Trace())
	}
}

// P6.1: who is silenced is killed as others are, but the trace doesn't tell it.
func TestSilence(t *testing.T) {
	w, b := world(t, 8, adds(0, 3), adds(0, 3))
	must(t, w, step(1), add(0), api.Answer{})
	was := w.Trace()
	for _, i := range []int{-1, 2, 99, math.MinInt, math.MaxInt} {
		w.Silence(i)
	}
	if w.Dead(0) || w.Dead(1) {
		t.Error("others were killed")
	}
	w.Silence(1)
	w.Silence(1)
	if w.Dead(0) || !w.Dead(1) || w.Ended(1) {
		t.Error(w.Dead(0), w.Dead(1), w.Ended(1))
	}
	traced(t, w, was)
	refused(t, w, step(1), api.ErrDead)
	refused(t, w, kill(1), api.ErrDead)
	bare(t, w, kill(0))
	w.Silence(0)
	if n := w.Robin(most); n != 0 || b.Count() != 1 || len(w.Trace()) != 2 {
		t.Error(n, b.Count(), w.Trace())
	}
}

// P6.1: an actor that isn't there is neither dead nor at its end.
func TestNobody(t *testing.T) {
	w, _ := world(t, 8, nil)
	for _, i := range []int{-1, 1, 2, math.MinInt, math.MaxInt, 1 << 32} {
		if w.Dead(i) || w.Ended(i) {
			t.Error(i, w.Dead(i), w.Ended(i))
		}
	}
	if w.Dead(0) || !w.Ended(0) {
		t.Error(w.Dead(0), w.Ended(0))
	}
}

// P6.1: a nil world has no actors, and no clock.
func TestNilWorld(t *testing.T) {
	var w *sched.World
	for _, i := range []int{0, 1, -1, math.MaxInt, math.MinInt} {
		refused(t, w, step(i), api.ErrRange)
		refused(t, w, kill(i), api.ErrRange)
		w.Silence(i)
		if w.Dead(i) || w.Ended(i) {
			t.Error(i)
		}
	}
	for _, n := range []int64{0, 5, -1, far, far + 1} {
		refused(t, w, tick(n), api.ErrArg)
		refused(t, w, api.Pick{Kind: 3, N: n}, api.ErrArg)
		refused(t, w, api.Pick{Kind: -1, N: n}, api.ErrArg)
	}
	if l := w.Run([]api.Pick{step(0), tick(1), kill(0)}); len(l) != 0 {
		t.Error(l)
	}
	if w.Robin(most) != 0 || w.Robin(0) != 0 || w.Clock() != 0 || len(w.Trace()) != 0 {
		t.Error(w.Robin(1), w.Clock(), w.Trace())
	}
}

// P6.1: a world without actors, and one that nothing made, have a clock.
func TestNoActors(t *testing.T) {
	for _, w := range []*sched.World{{}, sched.New(nil, nil), sched.New(fresh(t, 8), nil), sched.New(nil, []sched.Machine{})} {
		refused(t, w, step(0), api.ErrRange)
		refused(t, w, kill(0), api.ErrRange)
		bare(t, w, tick(3))
		if w.Clock() != 3 || w.Robin(most) != 0 || w.Dead(0) || w.Ended(0) || len(w.Trace()) != 1 {
			t.Error(w.Clock(), w.Robin(1), w.Dead(0), w.Ended(0), w.Trace())
		}
	}
}

// P6.1: a nil buffer refuses all accesses; who has none isn't killed.
func TestNilBuffer(t *testing.T) {
	w := sched.New(nil, []sched.Machine{adds(0, 2), play(api.Access{}), nil, play(api.Access{Kind: api.Read})})
	refused(t, w, step(0), api.ErrRange)
	refused(t, w, step(1), api.ErrArg)
	bare(t, w, step(2))
	refused(t, w, step(3), api.ErrRange)
	if !w.Dead(0) || !w.Dead(1) || w.Dead(2) || !w.Dead(3) || len(w.Trace()) != 1 {
		t.Error(w.Dead(0), w.Dead(1), w.Dead(2), w.Dead(3), w.Trace())
	}
}

// P6.1: as many actors as there are machines.
func TestManyActors(t *testing.T) {
	const n = 3*api.MaxActors + 1
	var l []sched.Machine
	for i := range n {
		l = append(l, adds(8*i, 1))
	}
	w, b := world(t, 8*n, l...)
	for i := n - 1; i >= 0; i-- {
		must(t, w, step(i), add(8*i), api.Answer{})
	}
	refused(t, w, step(n), api.ErrRange)
	if b.Count() != n || w.Robin(most) != 0 {
		t.Error(b.Count())
	}
}

// P6.1: one machine may be two actors; one is killed then, and the other goes on.
func TestOneMachineTwice(t *testing.T) {
	p := adds(0, 5)
	w, _ := world(t, 8, p, p)
	if n := w.Robin(3); n != 3 || len(p.told) != 3 {
		t.Error(n, p.told)
	}
	bare(t, w, kill(0))
	if n := w.Robin(most); n != 2 || len(p.told) != 5 || w.Dead(1) {
		t.Error(n, p.told, w.Dead(1))
	}
}

// P6.1: the list of machines is neither kept nor changed, nor are picks.
func TestHandedInIsNotKept(t *testing.T) {
	one, other := adds(0, 4), adds(8, 4)
	all := []sched.Machine{one, other, adds(0, 9)}
	b := fresh(t, 16)
	w := sched.New(b, all[:1])
	all[0] = other
	must(t, w, step(0), add(0), api.Answer{})
	refused(t, w, step(1), api.ErrRange)
	if all[0] != sched.Machine(other) || all[1] != sched.Machine(other) || len(other.told) != 0 {
		t.Error("the list was changed")
	}
	picks := []api.Pick{step(0), kill(0), step(0), tick(3)}
	l := w.Run(picks[:2])
	clear(l)
	if !reflect.DeepEqual(picks, []api.Pick{step(0), kill(0), step(0), tick(3)}) {
		t.Error(picks)
	}
	if len(w.Trace()) != 3 || w.Trace()[2].Pick != kill(0) {
		t.Error(w.Trace())
	}
}

// scribbler writes three bytes and reads them, out of memory that it goes on writing, and scribbles on what it is told.
type scribbler struct {
	b    []byte
	step int
}

func (s *scribbler) Next() (api.Access, bool) {
	copy(s.b, "abc")
	switch s.step {
	case 0:
		return api.Access{Kind: api.Write, N: 3, B: s.b[:3]}, true
	case 1:
		return api.Access{Kind: api.Read, N: 3}, true
	}
	return api.Access{}, false
}

func (s *scribbler) Take(x api.Answer) {
	s.step++
	copy(s.b, "zzzzzz")
	copy(x.B, "yyy")
	_ = append(x.B, "yyy"...)
}

// scribble is done to the lists of events.
func scribble(l ...api.Event) {
	for _, v := range l {
		for _, b := range [][]byte{v.Access.B, v.Answer.B} {
			copy(b[:cap(b)], "xxxxxxxx")
		}
	}
}

// P6.1: what is told is new memory: the machine's, the trace's and what a call answered don't share any.
func TestAnswersAreNew(t *testing.T) {
	abc := []byte("abc")
	want := []api.Event{
		{Access: api.Access{Kind: api.Write, N: 3, B: abc}},
		{Access: api.Access{Kind: api.Read, N: 3}, Answer: api.Answer{B: abc}},
	}
	for _, how := range []func(w *sched.World) []api.Event{
		func(w *sched.World) []api.Event {
			v, _ := w.Pick(step(0))
			u, _ := w.Pick(step(0))
			return []api.Event{v, u}
		},
		func(w *sched.World) []api.Event { return w.Run(make([]api.Pick, 2)) },
		func(w *sched.World) []api.Event { w.Robin(2); return w.Trace() },
	} {
		s := &scribbler{b: make([]byte, 6)}
		w, b := world(t, 8, s)
		l := how(w)
		if len(l) != 2 || !same(l[0], want[0]) || !same(l[1], want[1]) {
			t.Error(l)
		}
		scribble(l...)
		early := w.Trace()
		traced(t, w, want)
		scribble(early...)
		_ = append(early[:1], api.Event{})
		traced(t, w, want)
		if !bytes.Equal(b.Bytes(), []byte("abc\x00\x00\x00\x00\x00")) || string(s.b) != "zzzzzz" {
			t.Error(b.Bytes(), string(s.b))
		}
	}
}

// breaker panics where it is told to.
type breaker struct {
	player
	next, take, tick bool
}

func (b *breaker) Next() (api.Access, bool) {
	if b.next {
		panic("next")
	}
	return b.player.Next()
}

func (b *breaker) Take(x api.Answer) {
	b.player.Take(x)
	if b.take {
		panic(nil)
	}
}

func (b *breaker) Tick(now int64) {
	if b.tick {
		panic("tick")
	}
}

// byValue has its methods at a value: of a nil pointer to one they panic.
type byValue struct{ a api.Access }

func (v byValue) Next() (api.Access, bool) { return v.a, true }
func (v byValue) Take(api.Answer)          {}
func (v byValue) Tick(int64)               {}

// P6.1: no call panics, whatever the machines do: of one that can't tell its next access there is none.
func TestMachinesThatPanic(t *testing.T) {
	broken, taking := &breaker{next: true, player: *adds(0, 3)}, &breaker{take: true, player: *adds(0, 2)}
	ticking, ear := &breaker{tick: true, player: *adds(0, 1)}, &listener{player: *adds(0, 1)}
	w, b := world(t, 8, broken, (*byValue)(nil), taking, ticking, ear)
	bare(t, w, tick(2))
	if !reflect.DeepEqual(ear.clocks, []int64{2}) {
		t.Error(ear.clocks)
	}
	for i := range 2 {
		if !w.Ended(i) {
			t.Error("not at its end", i)
		}
		bare(t, w, step(i))
	}
	must(t, w, step(2), add(0), api.Answer{})
	if w.Ended(2) || w.Ended(3) || len(taking.told) != 1 {
		t.Error(w.Ended(2), w.Ended(3), taking.told)
	}
	if n := w.Robin(most); n != 3 || b.Count() != 4 {
		t.Error(n, b.Count())
	}
	if who := actors(w.Trace()[4:]); !reflect.DeepEqual(who, []int{2, 3, 4}) {
		t.Error(who)
	}
	for i := range 5 {
		if w.Dead(i) || !w.Ended(i) {
			t.Error(i, w.Dead(i), w.Ended(i))
		}
		bare(t, w, kill(i))
	}
}

// P6.1: worlds don't depend on one another; they may share a buffer.
func TestWorldsAreTheirOwn(t *testing.T) {
	b := fresh(t, 8)
	one, other := sched.New(b, []sched.Machine{adds(0, 2)}), sched.New(b, []sched.Machine{adds(0, 2)})
	bare(t, one, tick(5))
	must(t, one, step(0), add(0), api.Answer{})
	bare(t, one, kill(0))
	if other.Clock() != 0 || other.Dead(0) || len(other.Trace()) != 0 {
		t.Error(other.Clock(), other.Dead(0), other.Trace())
	}
	must(t, other, step(0), add(0), api.Answer{V: 1})
	if len(one.Trace()) != 3 || b.Count() != 2 {
		t.Error(one.Trace(), b.Count())
	}
}

// P6.1: copies in turns, each by its own steps.
func TestCopiesInTurns(t *testing.T) {
	text := []byte("messages over shared memory")
	out := copies.Out(0, len(text))
	w, b := world(t, 64, copies.In(0, text), copies.Zero(40, 9), out)
	w.Run([]api.Pick{step(0), step(0), step(2)})
	if !bytes.Equal(out.Bytes(), text[:8]) || !bytes.Equal(b.Bytes()[:24], append(bytes.Clone(text[:16]), make([]byte, 8)...)) {
		t.Error(out.Bytes(), b.Bytes())
	}
	if n := w.Robin(most); n != 2+2+3 || !bytes.Equal(out.Bytes(), text) {
		t.Error(n, string(out.Bytes()))
	}
	if who := actors(w.Trace()); !reflect.DeepEqual(who, []int{0, 0, 2, 0, 1, 2, 0, 1, 2, 2}) {
		t.Error(who)
	}
}

// plan is a world as the chapter's words stand, in the plainest way: what each actor has left, and who is dead.
type plan struct {
	b     *membuf.Buffer
	left  [][]api.Access
	dead  []bool
	told  [][]api.Answer
	clock int64
	trace []api.Event
}

// pick is what a world must answer.
func (m *plan) pick(p api.Pick) (api.Event, api.Errno) {
	v := api.Event{Pick: p}
	switch {
	case p.Kind < 0 || p.Kind > 2 || p.Kind == api.PickTick && (p.N < 0 || p.N > far):
		return api.Event{}, api.ErrArg
	case p.Kind == api.PickTick:
		m.clock += p.N
	case p.Actor < 0 || p.Actor >= len(m.left):
		return api.Event{}, api.ErrRange
	case m.dead[p.Actor]:
		return api.Event{}, api.ErrDead
	case p.Kind == api.PickKill:
		m.dead[p.Actor] = true
	case len(m.left[p.Actor]) > 0:
		a := m.left[p.Actor][0]
		x, e := m.b.Do(a)
		if e != api.OK {
			m.dead[p.Actor] = true
			return api.Event{}, e
		}
		m.left[p.Actor] = m.left[p.Actor][1:]
		m.told[p.Actor] = append(m.told[p.Actor], x)
		v.Access, v.Answer = a, x
	}
	m.trace = append(m.trace, v)
	return v, api.OK
}

// chance tells numbers from 0 to below n, always the same ones for the same start.
type chance uint64

func (c *chance) below(n int) int {
	*c = *c*6364136223846793005 + 1442695040888963407
	return int(*c >> 33 % chance(n))
}

// access is any access to some sixteen bytes, now and then one that may not be.
func (c *chance) access() api.Access {
	a := api.Access{Kind: 1 + c.below(6), N: 8, At: 8 * c.below(2), V: uint64(c.below(3)), W: uint64(c.below(3))}
	if c.below(3) == 0 && a.Kind != api.Add {
		a.N = 4
	}
	if a.Kind == api.Write {
		a.B = bytes.Repeat([]byte{byte(c.below(3))}, a.N)
	}
	if c.below(25) == 0 {
		a.At += 3
	}
	return a
}

// pick is any pick, mostly a step.
func (c *chance) pick(actors int) api.Pick {
	p := api.Pick{Kind: api.PickStep, Actor: c.below(actors)}
	switch c.below(30) {
	case 0:
		p.Kind = api.PickKill
	case 1, 2:
		p = tick(int64(c.below(9) - 1))
	case 3:
		p.Actor = c.below(2*actors) - 2
	case 4:
		p.Kind = c.below(5) - 1
	}
	return p
}

// P6.1, P6.2: many worlds, of any machines and picks, against the plan.
func TestAgainstPlan(t *testing.T) {
	for start := range 400 {
		c := chance(start)
		n := 1 + c.below(5)
		m := &plan{b: fresh(t, 16), left: make([][]api.Access, n), dead: make([]bool, n), told: make([][]api.Answer, n)}
		var l []sched.Machine
		var players []*player
		for i := range n {
			for range c.below(25) {
				m.left[i] = append(m.left[i], c.access())
			}
			players = append(players, play(m.left[i]...))
			l = append(l, players[i])
		}
		w, b := world(t, 16, l...)
		for range 120 {
			p := c.pick(n)
			v, e := w.Pick(p)
			if u, f := m.pick(p); e != f || !same(v, u) {
				t.Fatal(start, p, v, e, "not", u, f)
			}
			if b.Count() != m.b.Count() || w.Clock() != m.clock {
				t.Fatal(start, p, b.Count(), m.b.Count(), w.Clock(), m.clock)
			}
		}
		traced(t, w, m.trace)
		for i, p := range players {
			if w.Dead(i) != m.dead[i] || w.Ended(i) != (len(m.left[i]) == 0) || !reflect.DeepEqual(p.told, m.told[i]) {
				t.Fatal(start, i, w.Dead(i), w.Ended(i), p.told, m.told[i])
			}
		}
		if !bytes.Equal(b.Bytes(), m.b.Bytes()) {
			t.Fatal(start, b.Bytes(), m.b.Bytes())
		}
	}
}

// loader adds 1 in two steps, a load and a store: what others do in between is lost.
type loader struct {
	step int
	v    uint64
}

func (l *loader) Next() (api.Access, bool) {
	switch l.step {
	case 0:
		return load(0), true
	case 1:
		return api.Access{Kind: api.Store, N: 8, V: l.v + 1}, true
	}
	return api.Access{}, false
}

func (l *loader) Take(x api.Answer) {
	if l.step == 0 {
		l.v = x.V
	}
	l.step++
}

// P6.2: each interleaving can be had: a step does one access, and nothing of the next one.
func TestEachInterleaving(t *testing.T) {
	for _, x := range []struct {
		who  []int
		want uint64
	}{
		{[]int{0, 0, 1, 1}, 2},
		{[]int{1, 1, 0, 0}, 2},
		{[]int{0, 1, 0, 1}, 1},
		{[]int{0, 1, 1, 0}, 1},
		{[]int{1, 0, 0, 1}, 1},
		{[]int{1, 0, 1, 0}, 1},
	} {
		w, b := world(t, 8, &loader{}, &loader{})
		for i, who := range x.who {
			w.Pick(step(who))
			if b.Count() != int64(i+1) {
				t.Error(x.who, i, b.Count())
			}
		}
		if got, _ := b.Do(load(0)); got.V != x.want || !w.Ended(0) || !w.Ended(1) {
			t.Error(x.who, got, "not", x.want)
		}
	}
}

// P6.2: asking, ticks, kills and what is refused do no access.
func TestNothingElseDoesAnAccess(t *testing.T) {
	p := adds(0, 9)
	w, b := world(t, 8, p)
	for range 5 {
		w.Ended(0)
		w.Dead(0)
		w.Trace()
		w.Clock()
		w.Robin(0)
		w.Run([]api.Pick{tick(1), {Kind: 3}, step(1), kill(1), tick(-1)})
	}
	if b.Count() != 0 || len(p.told) != 0 {
		t.Error(b.Count(), p.told)
	}
	w.Silence(0)
	w.Run([]api.Pick{step(0), kill(0), tick(1), step(0)})
	w.Robin(most)
	if b.Count() != 0 || len(p.told) != 0 || len(p.left) != 9 {
		t.Error(b.Count(), p.told)
	}
}
