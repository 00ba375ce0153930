package bound_test

import (
	"math"
	"testing"

	"hostler/api"
	"hostler/bound"
	"hostler/event"
	"hostler/glyph"
	"hostler/mach"
	"hostler/quiet"
	"hostler/status"
	"hostler/world"
)

func of(t *testing.T, c world.Config) *world.World {
	t.Helper()
	w, e := world.New(c)
	if e != api.OK {
		t.Fatal(c, e)
	}
	return w
}

func text(w *world.World) string {
	s, _ := glyph.Print(w.Events())
	return s
}

// settle checks how many rounds a world takes until it is quiet (below 0: any).
func settle(t *testing.T, w *world.World, want int) {
	t.Helper()
	n, is := bound.Settle(w)
	if !is || !w.Quiet() || n > bound.B(w.Config()) || want >= 0 && n != want {
		t.Fatalf("Settle: %d, %v, want %d", n, is, want)
	}
}

// acts lets goroutine after goroutine of machine 0 act, and settles each time.
func acts(t *testing.T, w *world.World, l ...world.Step) {
	t.Helper()
	settle(t, w, -1)
	for _, s := range l {
		if w.Machine(0).Place != mach.Exec || !w.Step(s) {
			t.Fatalf("%v: nothing happened", s)
		}
		settle(t, w, -1)
	}
}

func TestB(t *testing.T) {
	for _, c := range []struct {
		c    world.Config
		want int
	}{
		{world.Config{P: 1, M: 1, G: 1}, 26240},
		{world.Config{P: 1, M: 1, G: 2}, 64 * 5 * 83},
		{world.Config{P: 1, M: 2, G: 1}, 64 * 6 * 82},
		{world.Config{P: 2, M: 2, G: 1}, 64 * 6 * 101},
		{world.Config{P: 64, M: 128, G: 4096}, 64 * 132 * (72*72 + 4096)},
		{world.Config{}, 0}, {world.Config{P: 2, M: 1, G: 1}, 0}, {world.Config{P: 1, M: 1, G: 0}, 0}, {world.Config{P: 65, M: 65, G: 1}, 0},
		{world.Config{P: 1, M: 129, G: 1}, 0}, {world.Config{P: 1, M: 1, G: 4097}, 0}, {world.Config{P: math.MaxInt, M: math.MaxInt, G: math.MaxInt}, 0},
		{world.Config{P: math.MinInt, M: math.MinInt, G: math.MinInt}, 0},
	} {
		if got := bound.B(c.c); got != c.want {
			t.Errorf("B(%v): %d, want %d", c.c, got, c.want)
		}
		if got := bound.F(c.c, 5); (got == 0) != (c.want == 0) {
			t.Errorf("F(%v, 5): %d", c.c, got)
		}
	}
}

func TestF(t *testing.T) {
	one := 64 * 9 * 5 * 9
	for _, c := range []struct{ k, want int }{
		{1, one * 9}, {0, one * 9}, {-1, one * 9}, {math.MinInt, one * 9}, {2, one * 10}, {10, one * 18},
		{1<<20 - 1, one * (1<<20 + 7)}, {1 << 20, one * (1<<20 + 8)}, {1<<20 + 1, one * (1<<20 + 8)}, {math.MaxInt, one * (1<<20 + 8)},
	} {
		if got := bound.F(world.Config{P: 1, M: 1, G: 1}, c.k); got != c.want {
			t.Errorf("F by %d: %d, want %d", c.k, got, c.want)
		}
	}
	if got := bound.F(world.Config{P: 64, M: 128, G: 4096}, math.MaxInt); got != 64*4104*(1<<20+8)*132*72 {
		t.Error(got)
	}
	if got := bound.F(world.Config{P: 2, M: 3, G: 4}, 5); got != 64*12*13*7*10 {
		t.Error(got)
	}
}

func TestSettle(t *testing.T) {
	w := of(t, world.Config{P: 1, M: 1, G: 2})
	settle(t, w, 10)
	settle(t, w, 0)
	w.Step(world.Step{Act: world.Spawn, X: 1})
	settle(t, w, 11)
	w.Step(world.Step{Act: world.Block})
	settle(t, w, 6)
	w.Step(world.Step{Act: world.Exit})
	settle(t, w, 31)
	settle(t, w, 0)
	if got := text(w); got != "+0 →0m0p0 +1m0p0 ■0m0p0 →1m0p0 ✝1m0p0" {
		t.Error(got)
	}
}

func TestDeliverOfNothing(t *testing.T) {
	w := of(t, world.Config{P: 1, M: 1, G: 1})
	if n, is := bound.Deliver(w); n != 0 || !is || len(w.Events()) != 1 {
		t.Error(n, is)
	}
	acts(t, w, world.Step{Act: world.Sleep, D: 5})
	w.Step(world.Step{Kind: world.Tick, D: 4})
	if n, is := bound.Deliver(w); n != 0 || !is || !w.Asleep(0) {
		t.Error(n, is)
	}
}

func TestDeliver(t *testing.T) {
	w := of(t, world.Config{P: 1, M: 1, G: 1})
	acts(t, w, world.Step{Act: world.Sleep, D: 5})
	w.Step(world.Step{Kind: world.Tick, D: 5})
	// At Sleep, and then what is due is taken with the lock held.
	if n, is := bound.Deliver(w); n != 4 || !is || w.Source().Due() {
		t.Error(n, is)
	}
	if w.Machine(0).Got != 0 {
		t.Error(w.Machine(0))
	}
	settle(t, w, -1)
	if w.Status(0) != status.Running {
		t.Error(text(w))
	}
}

func TestDeliverWhileAllRun(t *testing.T) {
	w := of(t, world.Config{P: 1, M: 1, G: 2})
	acts(t, w, world.Step{Act: world.Spawn, X: 1}, world.Step{Act: world.Wait, X: 7})
	w.Step(world.Step{Kind: world.Ready, A: 7})
	if n, is := bound.Deliver(w); n != 1 || is || !w.Source().Due() {
		t.Error(n, is)
	}
	// On its way to Exec, and then a whole round there.
	w.Step(world.Step{Act: world.Wake, X: 1})
	w.Step(world.Step{Act: world.Spawn, X: 1})
	if n, is := bound.Deliver(w); n != 1 || is {
		t.Error(n, is)
	}
	w = of(t, world.Config{P: 1, M: 1, G: 3})
	acts(t, w, world.Step{Act: world.Spawn, X: 1}, world.Step{Act: world.Wait, X: 7})
	w.Step(world.Step{Kind: world.Ready, A: 7})
	w.Step(world.Step{Act: world.Spawn, X: 2})
	if n, is := bound.Deliver(w); n != 12 || is {
		t.Error(n, is)
	}
	// One that sleeps is enough.
	w = of(t, world.Config{P: 1, M: 2, G: 2})
	acts(t, w, world.Step{Act: world.Spawn, X: 1}, world.Step{Act: world.Wait, X: 7})
	w.Step(world.Step{Kind: world.Ready, A: 7})
	if n, is := bound.Deliver(w); n != 4 || !is {
		t.Error(n, is)
	}
}

func TestServe(t *testing.T) {
	w := of(t, world.Config{P: 1, M: 1, G: 4})
	if n, is := bound.Serve(w, 0, 1); n != 10 || !is {
		t.Error(n, is)
	}
	for _, g := range []int{1, 3, -1, 4, math.MinInt, math.MaxInt} {
		if n, is := bound.Serve(w, g, 1); n != 0 || is {
			t.Errorf("of %d: %d, %v", g, n, is)
		}
	}
	acts(t, w, world.Step{Act: world.Spawn, X: 1})
	// Goroutine 0 yields at the 5-th pick.
	if n, is := bound.Serve(w, 1, 5); n != 4+18 || !is {
		t.Error(n, is, text(w))
	}
	// Goroutine 1 runs: it yields, 0 runs and yields, and then it is dispatched.
	was := len(w.Events())
	if n, is := bound.Serve(w, 1, 3); !is || n < 2*3+30 {
		t.Error(n, is)
	}
	seen, _ := glyph.Print(w.Events()[was:])
	if seen != "↺1m0p0 →0m0p0 ↺0m0p0 →1m0p0" {
		t.Error(seen)
	}
	acts(t, w, world.Step{Act: world.Exit})
	if n, is := bound.Serve(w, 1, 3); n != 0 || is {
		t.Error(n, is)
	}
}

func TestServeByK(t *testing.T) {
	for _, c := range []struct{ k, want int }{{1, 18}, {0, 18}, {-5, 18}, {math.MinInt, 18}, {2, 19}, {100, 117}} {
		w := of(t, world.Config{P: 1, M: 1, G: 2})
		acts(t, w, world.Step{Act: world.Spawn, X: 1})
		if n, is := bound.Serve(w, 1, c.k); n != c.want || !is {
			t.Errorf("by %d: %d, %v, want %d", c.k, n, is, c.want)
		}
	}
	w := of(t, world.Config{P: 1, M: 1, G: 2})
	acts(t, w, world.Step{Act: world.Spawn, X: 1})
	if n, is := bound.Serve(w, 1, math.MaxInt); n != 1<<20+17 || !is {
		t.Error("by the greatest:", n, is)
	}
}

// step is one of random steps.
func step(c world.Config, next func(n int) int, acts int) world.Step {
	switch k := next(30); {
	case k == 0:
		return world.Step{Kind: world.Tick, D: int64(next(6))}
	case k == 1:
		return world.Step{Kind: world.Ready, A: next(6)}
	}
	s := world.Step{A: next(c.M)}
	if next(100) < acts {
		s.Act, s.X, s.D = uint8(next(9)), next(c.G+1), int64(next(9)-2)
	}
	return s
}

// dispatches is how many of a goroutine a world has seen.
func dispatches(w *world.World, g int) int {
	n := 0
	for _, e := range w.Events() {
		if e.Kind == event.Dispatch && e.G == g {
			n++
		}
	}
	return n
}

func TestBehindAnySteps(t *testing.T) {
	for seed := range uint64(200) {
		x := seed*2862933555777941757 + 3037000493
		next := func(n int) int {
			x = x*6364136223846793005 + 1442695040888963407
			return int(x>>33) % n
		}
		p := 1 + next(4)
		c := world.Config{P: p, M: p + next(4), G: 1 + next(12)}
		l, percent := []world.Step{}, next(100)
		for range 100 + next(500) {
			l = append(l, step(c, next, percent))
		}
		w := of(t, c)
		w.Run(l)
		settle(t, w, -1)
		if f := quiet.Check(w); len(f) > 0 {
			t.Fatal(seed, f)
		}

		w = of(t, c)
		w.Run(l)
		n, is := bound.Deliver(w)
		runs := 0
		for i := range c.M {
			if w.Machine(i).G >= 0 {
				runs++
			}
		}
		if is == w.Source().Due() || !is && runs < c.M || n > bound.B(c) {
			t.Fatalf("seed %d: Deliver: %d, %v", seed, n, is)
		}

		for _, k := range []int{1, 1 + next(9), 40} {
			w = of(t, c)
			w.Run(l)
			for _, g := range quiet.Runnable(w) {
				was := dispatches(w, g)
				n, is := bound.Serve(w, g, k)
				now := dispatches(w, g)
				if w.Status(g) == status.Running && now == was {
					// It was dispatched while another one was served.
					continue
				}
				if !is || now == was || n > bound.F(c, k) {
					t.Fatalf("seed %d: Serve of %d by %d: %d, %v", seed, g, k, n, is)
				}
			}
		}
	}
}

func TestServeStopsWhenItIsDispatched(t *testing.T) {
	w := of(t, world.Config{P: 2, M: 3, G: 6})
	acts(t, w, world.Step{Act: world.Spawn, X: 1}, world.Step{Act: world.Spawn, X: 2}, world.Step{Act: world.Spawn, X: 3}, world.Step{Act: world.Spawn, X: 4})
	for _, g := range quiet.Runnable(w) {
		was, runs := dispatches(w, g), w.Status(g) == status.Running
		if _, is := bound.Serve(w, g, 2); !is || dispatches(w, g) != was+1 || w.Status(g) != status.Running || runs {
			t.Errorf("%d: %s", g, text(w))
		}
		last := w.Events()[len(w.Events())-1]
		if last.Kind != event.Dispatch && last.G == g {
			t.Errorf("it goes on behind it: %v", last)
		}
	}
}
