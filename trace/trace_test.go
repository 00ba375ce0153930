package trace_test

import (
	"slices"
	"testing"

	"hostler/api"
	"hostler/event"
	"hostler/trace"
	"hostler/world"
)

func of(t *testing.T, c world.Config) *world.World {
	t.Helper()
	w, e := world.New(c)
	if e != api.OK {
		t.Fatal(c, e)
	}
	return w
}

// picks are so many of a machine.
func picks(i, n int) []world.Step {
	var l []world.Step
	for range n {
		l = append(l, world.Step{A: i})
	}
	return l
}

// tick is time that passes.
func tick(d int64) world.Step { return world.Step{Kind: world.Tick, D: d} }

// ready is a descriptor that is.
func ready(fd int) world.Step { return world.Step{Kind: world.Ready, A: fd} }

// entry is an event of the only machine, and when it is seen.
func entry(k event.Kind, g, m, p int, value, now int64) trace.Entry {
	return trace.Entry{Event: event.Event{Kind: k, G: g, M: m, P: p, Value: value}, Now: now}
}

// is checks entries, and what is early and unready.
func is(t *testing.T, x *trace.Trace, early, unready []int, want ...trace.Entry) {
	t.Helper()
	if got := x.Entries(); !slices.Equal(got, want) {
		t.Errorf("Entries %v, want %v", got, want)
	}
	if got := x.Early(); !slices.Equal(got, early) {
		t.Errorf("Early %v, want %v", got, early)
	}
	if got := x.Unready(); !slices.Equal(got, unready) {
		t.Errorf("Unready %v, want %v", got, unready)
	}
}

// first is what is seen first.
var first = entry(event.Spawn, 0, -1, -1, 0, 0)

func TestExample(t *testing.T) {
	w := of(t, world.Config{P: 1, M: 1, G: 1})
	x := trace.New(w)
	is(t, x, nil, nil, first)
	if x.World() != w {
		t.Error("its world is another one")
	}
}

func TestNewOfWhatWasSeen(t *testing.T) {
	w := of(t, world.Config{P: 1, M: 1, G: 1})
	w.Run(picks(0, 10))
	w.Step(tick(7))
	x := trace.New(w)
	is(t, x, nil, nil, entry(event.Spawn, 0, -1, -1, 0, 7), entry(event.Dispatch, 0, 0, 0, 0, 7))
	x.Step(tick(2))
	x.Step(world.Step{Act: world.Block})
	is(t, x, nil, nil, entry(event.Spawn, 0, -1, -1, 0, 7), entry(event.Dispatch, 0, 0, 0, 0, 7), entry(event.Block, 0, 0, 0, 0, 9))
}

func TestStepAndRunAreTheWorlds(t *testing.T) {
	c := world.Config{P: 2, M: 3, G: 4}
	w, x := of(t, c), trace.New(of(t, c))
	l := []world.Step{{A: 5}, {A: 1}, {Kind: 9}, tick(1), tick(-1), ready(-1), ready(70000), ready(3), {A: 0}, {A: 2}}
	for _, s := range l {
		if w.Step(s) != x.Step(s) {
			t.Errorf("Step of %v", s)
		}
	}
	l = append(l, picks(0, 12)...)
	l = append(l, world.Step{Act: world.Spawn, X: 2}, world.Step{Act: world.Spawn, X: 2}, world.Step{Act: world.Spawn, X: 9})
	kept := slices.Clone(l)
	if n, want := x.Run(l), w.Run(l); n != want {
		t.Errorf("Run: %d, want %d", n, want)
	}
	if !x.World().Memory().Same(w.Memory()) || !slices.Equal(x.World().Events(), w.Events()) || !slices.Equal(l, kept) {
		t.Error("the worlds are unlike")
	}
	if x.Run(nil) != 0 {
		t.Error("of no steps")
	}
	if len(x.Entries()) != len(w.Events()) {
		t.Error(x.Entries())
	}
}

func TestWhenWhatWasSeen(t *testing.T) {
	x := trace.New(of(t, world.Config{P: 1, M: 1, G: 1}))
	x.Step(tick(3))
	x.Run(picks(0, 9))
	x.Step(tick(1))
	x.Run(picks(0, 1))
	x.Run([]world.Step{tick(10), {Act: world.Sleep, D: 5}})
	x.Run(picks(0, 40))
	x.Run([]world.Step{tick(5), tick(2)})
	x.Run(picks(0, 6))
	want := []trace.Entry{first, entry(event.Dispatch, 0, 0, 0, 0, 4), entry(event.Sleep, 0, 0, 0, 19, 14), entry(event.Ready, 0, 0, -1, 0, 21)}
	is(t, x, nil, nil, want...)
	x.Step(tick(9))
	x.Run(picks(0, 40))
	is(t, x, nil, nil, append(want, entry(event.Dispatch, 0, 0, 0, 0, 30))...)
}

func TestEarly(t *testing.T) {
	// A trace of a world that has slept and woken already sees it all at
	// one time: that it isn't early then hangs on that time.
	w := of(t, world.Config{P: 1, M: 1, G: 1})
	w.Run(picks(0, 10))
	w.Step(world.Step{Act: world.Sleep, D: 5})
	w.Run(picks(0, 40))
	w.Step(tick(5))
	w.Run(picks(0, 40))
	is(t, trace.New(w), nil, nil, entry(event.Spawn, 0, -1, -1, 0, 5), entry(event.Dispatch, 0, 0, 0, 0, 5),
		entry(event.Sleep, 0, 0, 0, 5, 5), entry(event.Ready, 0, 0, -1, 0, 5), entry(event.Dispatch, 0, 0, 0, 0, 5))
}

func TestUnready(t *testing.T) {
	// The descriptors are ready by steps that aren't the trace's: so who waits
	// is unready, as often as they are.
	w := of(t, world.Config{P: 1, M: 1, G: 1})
	x := trace.New(w)
	x.Run(picks(0, 10))
	x.Step(world.Step{Act: world.Wait, X: 3})
	x.Run(picks(0, 40))
	w.Step(ready(3))
	x.Run(picks(0, 40))
	want := []trace.Entry{first, entry(event.Dispatch, 0, 0, 0, 0, 0), entry(event.Wait, 0, 0, 0, 3, 0), entry(event.Ready, 0, 0, -1, 0, 0), entry(event.Dispatch, 0, 0, 0, 0, 0)}
	is(t, x, nil, []int{3}, want...)
	x.Step(world.Step{Act: world.Wait, X: 3})
	x.Run(picks(0, 40))
	x.Run([]world.Step{ready(4), ready(70000), ready(-1), {Kind: 7, A: 3}, tick(3)})
	w.Step(ready(3))
	x.Run(picks(0, 40))
	want = append(want, entry(event.Wait, 0, 0, 0, 3, 0), entry(event.Ready, 0, 0, -1, 0, 3), entry(event.Dispatch, 0, 0, 0, 0, 3))
	is(t, x, nil, []int{3, 6}, want...)
	x.Step(world.Step{Act: world.Wait, X: 3})
	x.Run(picks(0, 40))
	x.Step(ready(3))
	x.Run(picks(0, 40))
	want = append(want, entry(event.Wait, 0, 0, 0, 3, 3), entry(event.Ready, 0, 0, -1, 0, 3), entry(event.Dispatch, 0, 0, 0, 0, 3))
	is(t, x, nil, []int{3, 6}, want...)
	// The one step is used up.
	x.Step(world.Step{Act: world.Wait, X: 3})
	x.Run(picks(0, 40))
	w.Step(ready(3))
	x.Run(picks(0, 40))
	want = append(want, entry(event.Wait, 0, 0, 0, 3, 3), entry(event.Ready, 0, 0, -1, 0, 3), entry(event.Dispatch, 0, 0, 0, 0, 3))
	is(t, x, nil, []int{3, 6, 12}, want...)
}

func TestReadiesAreUsedUpOneByOne(t *testing.T) {
	w := of(t, world.Config{P: 1, M: 1, G: 1})
	x := trace.New(w)
	x.Run(picks(0, 10))
	// Two steps, one of them ahead of the Wait; then one that isn't the trace's.
	x.Run([]world.Step{ready(8), ready(8)})
	for n := range 3 {
		x.Step(world.Step{Act: world.Wait, X: 8})
		x.Run(picks(0, 40))
		if n > 0 {
			w.Step(ready(8))
			x.Run(picks(0, 40))
		}
		want := []int{}
		if n == 2 {
			want = []int{9}
		}
		if got := x.Unready(); !slices.Equal(got, want) {
			t.Errorf("behind %d: %v, %v", n+1, got, x.Entries())
		}
	}
}

func TestOnlyReadiesThatHappenedCount(t *testing.T) {
	// Picks of machine 0 are no steps by which the descriptor 0 is ready.
	w := of(t, world.Config{P: 1, M: 1, G: 1})
	x := trace.New(w)
	x.Run(picks(0, 10))
	x.Step(world.Step{Act: world.Wait, X: 0})
	x.Run(append(picks(0, 40), tick(0)))
	w.Step(ready(0))
	x.Run(picks(0, 40))
	if got := x.Unready(); !slices.Equal(got, []int{3}) {
		t.Error(got, x.Entries())
	}
	// Nor is a Ready, of which there are too many known.
	for fd := range api.MaxFD {
		x.Step(ready(fd))
	}
	if x.Step(ready(5000)) {
		t.Error("too many are known")
	}
	for _, fd := range []int{7, 5000} {
		x.Step(world.Step{Act: world.Wait, X: fd})
		x.Run(picks(0, 40))
	}
	w.Step(ready(5000))
	x.Run(picks(0, 40))
	if got := x.Unready(); !slices.Equal(got, []int{3, 9}) {
		t.Error(got, x.Entries())
	}
}

func TestOthersReadiesAreNeither(t *testing.T) {
	// Who was blocked is ready by another one, whatever it did ahead of that.
	x := trace.New(of(t, world.Config{P: 1, M: 1, G: 2}))
	x.Run(picks(0, 10))
	x.Step(world.Step{Act: world.Spawn, X: 1})
	x.Run(picks(0, 20))
	x.Step(world.Step{Act: world.Block})
	x.Run(picks(0, 20))
	x.Step(world.Step{Act: world.Wake, X: 0})
	x.Run(picks(0, 20))
	l := x.Entries()
	if last := l[len(l)-1]; last.Event != (event.Event{Kind: event.Ready, G: 0}) || len(x.Early())+len(x.Unready()) != 0 {
		t.Error(l, x.Early(), x.Unready())
	}
}

func TestAnswersAreNew(t *testing.T) {
	w := of(t, world.Config{P: 1, M: 1, G: 1})
	x := trace.New(w)
	x.Run(picks(0, 10))
	x.Step(world.Step{Act: world.Wait, X: 3})
	x.Run(picks(0, 40))
	w.Step(ready(3))
	x.Run(picks(0, 6))
	x.Entries()[0].Now, x.Unready()[0] = 99, 99
	l := x.Entries()
	l = append(l[:1], trace.Entry{Now: 98})
	if got := x.Entries(); got[0] != first || got[1].Now == 98 || x.Unready()[0] != 3 {
		t.Error(got, x.Unready(), l)
	}
}

func TestNothingIsEarlyOrUnready(t *testing.T) {
	readies := 0
	for seed := range uint64(200) {
		r := seed*2862933555777941757 + 3037000493
		next := func(n int) int {
			r = r*6364136223846793005 + 1442695040888963407
			return int(r>>33) % n
		}
		p := 1 + next(4)
		c := world.Config{P: p, M: p + next(4), G: 1 + next(12)}
		x, acts, times := trace.New(of(t, c)), next(100), []int64{0}
		for range 500 {
			s := world.Step{A: next(c.M)}
			switch k := next(20); {
			case k == 0:
				s = tick(int64(next(6)))
			case k == 1:
				s = ready(next(6))
			case next(100) < acts:
				s.Act, s.X, s.D = uint8(next(9)), next(c.G+1), int64(next(30)-2)
			}
			was := len(x.Entries())
			x.Step(s)
			for range len(x.Entries()) - was {
				times = append(times, x.World().Source().Now())
			}
		}
		if len(x.Early()) != 0 || len(x.Unready()) != 0 {
			t.Fatalf("seed %d: early %v, unready %v", seed, x.Early(), x.Unready())
		}
		l, events := x.Entries(), x.World().Events()
		if len(l) != len(events) || len(l) != len(times) {
			t.Fatalf("seed %d: %d entries, %d events", seed, len(l), len(events))
		}
		for i := range l {
			if l[i].Event != events[i] || l[i].Now != times[i] {
				t.Fatalf("seed %d: %v at %d", seed, l[i], i)
			}
			if l[i].Event.Kind == event.Ready {
				readies++
			}
		}
	}
	if readies < 100 {
		t.Error("few were ready:", readies)
	}
}
