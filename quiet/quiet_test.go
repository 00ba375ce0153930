package quiet_test

import (
	"math"
	"slices"
	"testing"

	"hostler/api"
	"hostler/glyph"
	"hostler/mach"
	"hostler/quiet"
	"hostler/status"
	"hostler/world"
)

func of(t *testing.T, c world.Config) *world.World {
	t.Helper()
	w, e := world.New(c)
	if e != api.OK {
		t.Fatal(c, e)
	}
	return w
}

// picks picks a machine so many times.
func picks(w *world.World, i, n int) {
	for range n {
		w.Step(world.Step{A: i})
	}
}

// settle picks all machines, until the world is quiet.
func settle(t *testing.T, w *world.World) {
	t.Helper()
	for range 100000 {
		if w.Quiet() {
			return
		}
		for i := range w.Config().M {
			picks(w, i, 1)
		}
	}
	t.Fatal("it isn't quiet")
}

// check checks what is wrong with a world, by names.
func check(t *testing.T, w *world.World, want ...string) {
	t.Helper()
	var got []string
	for _, f := range quiet.Check(w) {
		got = append(got, quiet.Name(f))
	}
	if !slices.Equal(got, want) {
		text, _ := glyph.Print(w.Events())
		t.Fatalf("wrong is %v, want %v, behind %s", got, want, text)
	}
}

func TestNumbersAndNames(t *testing.T) {
	names := []string{"awake", "spin", "given", "lost", "late", "unseen", "kept"}
	for i, f := range []quiet.Fault{quiet.Awake, quiet.Spin, quiet.Given, quiet.Lost, quiet.Late, quiet.Unseen, quiet.Kept} {
		if int(f) != i || quiet.Name(f) != names[i] {
			t.Errorf("%d: %d, %q", i, f, quiet.Name(f))
		}
	}
	for _, f := range []quiet.Fault{-1, 7, 8, math.MinInt, math.MaxInt} {
		if quiet.Name(f) != "" {
			t.Errorf("Name(%d): %q", f, quiet.Name(f))
		}
	}
}

func TestExample(t *testing.T) {
	w := of(t, world.Config{P: 1, M: 1, G: 1})
	check(t, w, "awake")
	if !slices.Equal(quiet.Check(w), []quiet.Fault{quiet.Awake}) {
		t.Error(quiet.Check(w))
	}
	picks(w, 0, 9)
	check(t, w, "awake")
	picks(w, 0, 1)
	check(t, w)
}

func TestAwakeAlone(t *testing.T) {
	// Processor 1 is given, machine 1 spins, and a ring has a goroutine: but it
	// isn't quiet, and nothing else is told.
	w := of(t, world.Config{P: 3, M: 3, G: 2})
	picks(w, 0, 10)
	w.Step(world.Step{A: 0, Act: world.Spawn, X: 1})
	for n := 0; w.Machine(0).Place != mach.Exec; n++ {
		check(t, w, "awake")
		picks(w, 0, 1)
	}
	check(t, w, "awake")
	if w.Spinning() != 1 || len(w.Ring(0)) != 1 {
		t.Error("it is otherwise", w.Spinning(), w.Ring(0))
	}
	settle(t, w)
	check(t, w)
}

func TestAWokenSleeperIsAwake(t *testing.T) {
	w := of(t, world.Config{P: 1, M: 1, G: 1})
	picks(w, 0, 10)
	w.Step(world.Step{A: 0, Act: world.Sleep, D: 3})
	settle(t, w)
	check(t, w)
	if quiet.Waiting(w) || len(quiet.Runnable(w)) != 0 {
		t.Error("somebody waits")
	}
	w.Step(world.Step{Kind: world.Tick, D: 3})
	check(t, w, "awake")
	settle(t, w)
	check(t, w)
}

func TestBusyProcessors(t *testing.T) {
	// All processors are busy: goroutines stand in queues, and one is due, but
	// nothing is wrong.
	w := of(t, world.Config{P: 1, M: 2, G: 5})
	picks(w, 0, 10)
	for g := 1; g < 5; g++ {
		w.Step(world.Step{A: 0, Act: world.Spawn, X: g})
		settle(t, w)
	}
	w.Step(world.Step{A: 0, Act: world.Sleep, D: 3})
	settle(t, w)
	w.Step(world.Step{A: 0, Act: world.Wait, X: 3})
	settle(t, w)
	check(t, w)
	w.Step(world.Step{Kind: world.Tick, D: 3})
	w.Step(world.Step{Kind: world.Ready, A: 3})
	settle(t, w)
	if w.Status(0) == status.Sleeping && !w.Source().Due() {
		t.Error("nothing is due")
	}
	check(t, w)
}

func TestRunnable(t *testing.T) {
	w := of(t, world.Config{P: 1, M: 1, G: 9})
	if got := quiet.Runnable(w); !slices.Equal(got, []int{0}) || quiet.Waiting(w) {
		t.Error(got)
	}
	picks(w, 0, 10)
	if got := quiet.Runnable(w); len(got) != 0 {
		t.Error(got)
	}
	for _, g := range []int{7, 3, 8, 1} {
		w.Step(world.Step{A: 0, Act: world.Spawn, X: g})
		settle(t, w)
	}
	got := quiet.Runnable(w)
	if !slices.Equal(got, []int{1, 3, 7, 8}) || quiet.Waiting(w) {
		t.Error(got)
	}
	got[0] = 99
	if got := quiet.Runnable(w); got[0] != 1 {
		t.Error("it isn't new")
	}
	w.Step(world.Step{A: 0, Act: world.Block})
	settle(t, w)
	if got := quiet.Runnable(w); !slices.Equal(got, []int{3, 7, 8}) {
		t.Error(got)
	}
}

func TestWaiting(t *testing.T) {
	w := of(t, world.Config{P: 2, M: 2, G: 3})
	if !quiet.Waiting(w) {
		t.Error("nobody waits at first")
	}
	picks(w, 0, 10)
	if quiet.Waiting(w) || w.Idle().CountP() != 1 {
		t.Error("somebody waits, though none is runnable")
	}
	w.Step(world.Step{A: 0, Act: world.Spawn, X: 1})
	if !quiet.Waiting(w) {
		t.Error("nobody waits behind a Spawn")
	}
	picks(w, 0, 9)
	if w.Machine(1).Next != 1 || quiet.Waiting(w) || len(quiet.Runnable(w)) != 1 {
		t.Error("somebody waits, though no processor is idle")
	}
}

// step is one of random steps.
func step(c world.Config, next func(n int) int, acts int) world.Step {
	switch k := next(30); {
	case k == 0:
		return world.Step{Kind: world.Tick, D: int64(next(6))}
	case k == 1:
		return world.Step{Kind: world.Ready, A: next(6)}
	}
	s := world.Step{A: next(c.M)}
	if next(100) < acts {
		s.Act, s.X, s.D = uint8(next(9)), next(c.G+1), int64(next(9)-2)
	}
	return s
}

func TestNoWakeupIsLost(t *testing.T) {
	quiets := 0
	for seed := range uint64(400) {
		x := seed*2862933555777941757 + 3037000493
		next := func(n int) int {
			x = x*6364136223846793005 + 1442695040888963407
			return int(x>>33) % n
		}
		p := 1 + next(4)
		c := world.Config{P: p, M: p + next(4), G: 1 + next(12)}
		w, acts := of(t, c), next(100)
		for range 600 {
			w.Step(step(c, next, acts))
			if w.Quiet() {
				quiets++
				check(t, w)
			} else {
				check(t, w, "awake")
			}
			runnable := quiet.Runnable(w)
			for g := range c.G {
				if slices.Contains(runnable, g) != (w.Status(g) == status.Runnable) {
					t.Fatal("Runnable", runnable)
				}
			}
			if quiet.Waiting(w) != (len(runnable) > 0 && w.Idle().CountP() > 0) {
				t.Fatal("Waiting")
			}
		}
		settle(t, w)
		check(t, w)
	}
	if quiets < 1000 {
		t.Error("few were quiet:", quiets)
	}
}

func TestNoWakeupIsLostOfBursts(t *testing.T) {
	// Machines go on for many steps alone, so that others stand still at all
	// places while much happens.
	for seed := range uint64(300) {
		x := seed*2862933555777941757 + 77
		next := func(n int) int {
			x = x*6364136223846793005 + 1442695040888963407
			return int(x>>33) % n
		}
		p := 2 + next(3)
		c := world.Config{P: p, M: p + next(3), G: 2 + next(8)}
		w := of(t, c)
		for range 120 {
			s := step(c, next, 60)
			n := next(25)
			for range n {
				w.Step(s)
				s.Act = world.Run
				if s.Kind != world.Pick {
					break
				}
			}
			if w.Quiet() {
				check(t, w)
			}
		}
		settle(t, w)
		check(t, w)
	}
}
