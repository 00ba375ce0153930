// Package whole holds what is promised of all layers together (P1 to P6), and
// the ten examples of the whole.
package whole

import (
	"math"
	"slices"
	"testing"

	"hostler/api"
	"hostler/bound"
	"hostler/boxed"
	"hostler/cell"
	"hostler/clock"
	"hostler/event"
	"hostler/explore"
	"hostler/global"
	"hostler/glyph"
	"hostler/idle"
	"hostler/model"
	"hostler/note"
	"hostler/quiet"
	"hostler/ring"
	"hostler/round"
	"hostler/script"
	"hostler/status"
	"hostler/ticket"
	"hostler/trace"
	"hostler/world"
)

func equal[T comparable](t *testing.T, what string, got, want T) {
	t.Helper()
	if got != want {
		t.Errorf("%s: %v, want %v", what, got, want)
	}
}

func TestTenExamples(t *testing.T) {
	m := cell.New(2)
	equal(t, "1", m.Add(1, -1), math.MaxUint64)

	m, k := cell.New(2), ticket.Lock{Next: 0, Serving: 1}
	equal(t, "2", k.Take(m), 0)
	equal(t, "2", k.Take(m), 1)
	k.Free(m, 0)
	equal(t, "2", k.Held(m, 1), true)

	m = cell.New(1)
	equal(t, "3", note.Wake(m, 0), true)
	equal(t, "3", note.Wake(m, 0), false)

	r := ring.New()
	r.Ready(1)
	r.Put(2)
	g, _ := r.Get()
	equal(t, "4", g, 1)

	q := global.New(2)
	q.Put(0, 1, 2, 3, 4)
	equal(t, "5", q.Share(), 3)

	var c clock.Clock
	c.Tick(5)
	equal(t, "6", c.After(math.MaxInt64), clock.End)

	x := idle.New(1, 4)
	x.Stop(2)
	x.Stop(3)
	a, _ := x.TakeM()
	b, _ := x.TakeM()
	equal(t, "7", [2]int{a, b}, [2]int{3, 2})

	word, _ := glyph.Word(event.Event{Kind: event.Spawn, G: 3, M: 1, P: 0})
	equal(t, "8", word, "+3m1p0")

	w, _ := world.New(world.Config{P: 1, M: 1, G: 1})
	w.Run(make([]world.Step, 10))
	equal(t, "9", w.Machine(0).G, 0)
	equal(t, "9", w.Status(0), status.Running)

	equal(t, "10", bound.B(world.Config{P: 1, M: 1, G: 1}), 26240)
}

// scripts goes through scripts that follow from seeds, some of them with many
// acts, some with few.
func scripts(n int, do func(b []byte)) {
	x := uint64(12345)
	for i := range n {
		b := make([]byte, 3+i%7*60)
		for j := range b {
			x = x*6364136223846793005 + 1442695040888963407
			b[j] = byte(x >> 33)
			// Half of the scripts have picks for most of their steps, or runs.
			if j > 2 && i%2 == 0 && x>>50%3 > 0 {
				b[j] = byte(x>>33)&0xF0 | byte(x>>60)
			}
		}
		if i%3 == 0 {
			b[2] |= 15
		}
		do(b)
	}
}

func TestARunOfGoroutines(t *testing.T) {
	scripts(400, func(b []byte) {
		w := script.Run(b)
		c := w.Config()
		if f := model.Check(c.P, c.M, c.G, w.Events()); len(f) > 0 {
			t.Fatalf("%v: %v in %s", b, f, script.Text(b))
		}
		m, running := model.New(c.P, c.M, c.G), 0
		for _, e := range w.Events() {
			m.Add(e)
		}
		for g := range c.G {
			equal(t, "a status", w.Status(g), m.Status(g))
		}
		for i := range c.M {
			g, p, is := m.Runs(i)
			if is {
				running++
				equal(t, "who runs", w.Machine(i).G, g)
				equal(t, "where", w.Machine(i).P, p)
			} else {
				equal(t, "who runs", w.Machine(i).G, -1)
			}
		}
		if running > c.P || running != m.Running() || !slices.Equal(m.Runnable(), quiet.Runnable(w)) {
			t.Fatalf("%v: %d run", b, running)
		}
	})
}

func TestNoWakeupIsLost(t *testing.T) {
	scripts(400, func(b []byte) {
		c, l := script.Parse(b)
		w, _ := world.New(c)
		for _, s := range l {
			w.Step(s)
			if f := quiet.Check(w); w.Quiet() && len(f) > 0 {
				t.Fatalf("%v: %v", b, f)
			}
		}
		if n, is := bound.Settle(w); !is || n > bound.B(c) || len(quiet.Check(w)) > 0 {
			t.Fatalf("%v: %d, %v", b, n, is)
		}
	})
}

func TestNoWakeupIsLostInAnyOrder(t *testing.T) {
	// One goroutine is spawned just when the other machine goes to sleep: all
	// orders of the next steps, from each place of its way on.
	c := world.Config{P: 2, M: 2, G: 4}
	w, _ := world.New(c)
	steps := make([]world.Step, 10)
	add := func(s world.Step, n int) {
		for range n {
			steps = append(steps, s)
		}
	}
	add(world.Step{Act: world.Spawn, X: 1}, 1)
	add(world.Step{}, 11)
	add(world.Step{A: 1}, 18)
	w.Run(steps)
	equal(t, "machine 1 runs", w.Machine(1).G, 1)
	for _, a := range []uint8{world.Spawn, world.Yield, world.Exit, world.Block} {
		for n := range 45 {
			p := explore.Plan{Config: c, Length: 7, Act: a, X: 2}
			p.Steps = append(slices.Clone(steps), world.Step{A: 1, Act: world.Exit})
			for range n {
				p.Steps = append(p.Steps, world.Step{A: 1})
			}
			o, e := explore.All(p)
			if e != api.OK || o.Quiet != 128 || o.Faults != 0 {
				t.Fatalf("act %d, behind %d: %v, %d", a, n, o, e)
			}
		}
	}
}

func TestWithinB(t *testing.T) {
	waited := 0
	scripts(400, func(b []byte) {
		w := script.Run(b)
		if !quiet.Waiting(w) {
			return
		}
		waited++
		idle, was := w.Idle(), len(w.Events())
		onto := func(w *world.World) bool {
			for _, e := range w.Events()[was:] {
				if e.Kind == event.Dispatch && idle.HasP(e.P) {
					return true
				}
			}
			return !quiet.Waiting(w)
		}
		if !round.New(w, round.Habit{}).Until(bound.B(w.Config()), onto) {
			t.Fatalf("%v: nobody is dispatched", b)
		}
	})
	if waited < 20 {
		t.Error("few waited:", waited)
	}
}

func TestInTime(t *testing.T) {
	scripts(400, func(b []byte) {
		c, l := script.Parse(b)
		w, _ := world.New(c)
		x := trace.New(w)
		x.Run(l)
		if len(x.Early()) > 0 || len(x.Unready()) > 0 {
			t.Fatalf("%v: early %v, unready %v", b, x.Early(), x.Unready())
		}
		if n, is := bound.Deliver(w); n > bound.B(c) || !is && !full(w) {
			t.Fatalf("%v: %d rounds, and something is due", b, n)
		}
	})
}

// full: does each machine run a goroutine?
func full(w *world.World) bool {
	for i := range w.Config().M {
		if w.Machine(i).G < 0 {
			return false
		}
	}
	return true
}

func TestTimesAreHeldAndDescriptorsKnown(t *testing.T) {
	w, _ := world.New(world.Config{P: 1, M: 1, G: 1})
	w.Run(make([]world.Step, 10))
	w.Run([]world.Step{{Kind: world.Tick, D: math.MaxInt64}, {Kind: world.Tick, D: math.MaxInt64}, {Act: world.Sleep, D: math.MaxInt64}})
	equal(t, "the end", w.Source().Now(), math.MaxInt64)
	bound.Settle(w)
	l := w.Events()
	equal(t, "until", l[2], event.Event{Kind: event.Sleep, Value: math.MaxInt64})
	equal(t, "at the end", w.Status(0), status.Running)
	for fd := range api.MaxFD {
		equal(t, "ready", w.Step(world.Step{Kind: world.Ready, A: fd}), true)
	}
	equal(t, "one more", w.Step(world.Step{Kind: world.Ready, A: api.MaxFD}), false)
	equal(t, "one that is known", w.Step(world.Step{Kind: world.Ready, A: 3}), true)
}

func TestEverybody(t *testing.T) {
	served := 0
	scripts(150, func(b []byte) {
		for _, g := range quiet.Runnable(script.Run(b)) {
			for _, k := range []int{1, 5} {
				w := script.Run(b)
				n, is := bound.Serve(w, g, k)
				if !is || n > bound.F(w.Config(), k) {
					t.Fatalf("%v: %d isn't dispatched within %d rounds", b, g, n)
				}
				served++
			}
		}
	})
	if served < 100 {
		t.Error("few were served:", served)
	}
}

func TestTextAndThings(t *testing.T) {
	scripts(300, func(b []byte) {
		text, w := script.Text(b), script.Run(b)
		l, at, e := glyph.Parse(text)
		if e != api.OK || at != 0 || !slices.Equal(l, w.Events()) {
			t.Fatalf("%v: %s isn't parsed", b, text)
		}
		c, steps := script.Parse(b)
		things := []any{"no step", c}
		for _, s := range steps {
			if s == (world.Step{A: s.A}) && s.A < 10 {
				things = append(things, s.A)
			} else {
				things = append(things, s)
			}
		}
		played, n := boxed.Play(things)
		again, _ := world.New(c)
		if n != again.Run(steps) || !slices.Equal(played.Events(), w.Events()) || !played.Memory().Same(w.Memory()) {
			t.Fatalf("%v: played otherwise", b)
		}
	})
}
