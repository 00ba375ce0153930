package explore_test

import (
	"maps"
	"math"
	"slices"
	"testing"

	"hostler/api"
	"hostler/explore"
	"hostler/glyph"
	"hostler/quiet"
	"hostler/world"
)

// picks are so many of a machine.
func picks(i, n int) []world.Step {
	var l []world.Step
	for range n {
		l = append(l, world.Step{A: i})
	}
	return l
}

func TestExample(t *testing.T) {
	if got := explore.Order(2, 3, 5); !slices.Equal(got, []int{1, 0, 1}) {
		t.Error(got)
	}
}

func TestCount(t *testing.T) {
	for _, c := range []struct{ machines, length, want int }{
		{-1, 3, 0}, {3, -1, 0}, {-1, -1, 0}, {-1, 0, 0}, {math.MinInt, 0, 0}, {0, math.MinInt, 0}, {0, -1, 0},
		{0, 1, 0}, {0, math.MaxInt, 0}, {0, 0, 1}, {1, 0, 1}, {5, 0, 1}, {math.MaxInt, 0, 1},
		{1, 1, 1}, {1, 100, 1}, {1, math.MaxInt, 1}, {2, 3, 8}, {3, 2, 9}, {7, 1, 7}, {10, 6, 1000000},
		{2, 20, 1 << 20}, {2, 21, 0}, {4, 10, 1 << 20}, {4, 11, 0}, {1 << 20, 1, 1 << 20}, {1<<20 + 1, 1, 0}, {1 << 10, 2, 1 << 20}, {1<<10 + 1, 2, 0},
		{2, 64, 0}, {2, math.MaxInt, 0}, {math.MaxInt, 1, 0}, {math.MaxInt, math.MaxInt, 0}, {1 << 32, 2, 0}, {128, 3, 0}, {101, 3, 1030301}, {102, 3, 0},
	} {
		if got := explore.Count(c.machines, c.length); got != c.want {
			t.Errorf("Count(%d, %d): %d, want %d", c.machines, c.length, got, c.want)
		}
	}
}

func TestOrdersAreNumbersToTheBase(t *testing.T) {
	for _, c := range [][2]int{{1, 4}, {2, 5}, {3, 4}, {5, 2}, {4, 1}} {
		last := []int{}
		for i := range explore.Count(c[0], c[1]) {
			l, number := explore.Order(c[0], c[1], i), 0
			for _, m := range l {
				if m < 0 || m >= c[0] {
					t.Fatal(l)
				}
				number = number*c[0] + m
			}
			if number != i || len(l) != c[1] || i > 0 && slices.Compare(last, l) >= 0 {
				t.Errorf("Order(%d, %d, %d): %v", c[0], c[1], i, l)
			}
			last = l
		}
	}
	for _, c := range [][3]int{
		{2, 3, -1}, {2, 3, 8}, {2, 3, math.MaxInt}, {2, 3, math.MinInt}, {0, 3, 0}, {-1, 3, 0}, {3, -1, 0}, {2, 21, 0}, {0, 0, 0}, {4, 0, 0}, {4, 0, 1}, {1, 3, 1},
	} {
		if got := explore.Order(c[0], c[1], c[2]); len(got) != 0 {
			t.Errorf("Order(%d, %d, %d): %v", c[0], c[1], c[2], got)
		}
	}
	if got := explore.Order(1, 3, 0); !slices.Equal(got, []int{0, 0, 0}) {
		t.Error(got)
	}
	if got := explore.Order(4, 10, 1<<20-1); !slices.Equal(got, []int{3, 3, 3, 3, 3, 3, 3, 3, 3, 3}) {
		t.Error(got)
	}
}

// spawned is a plan whose goroutine 0 has spawned another one, and then runs.
func spawned(act uint8, x int) explore.Plan {
	steps := append(picks(0, 10), world.Step{Act: world.Spawn, X: 1})
	return explore.Plan{Config: world.Config{P: 2, M: 2, G: 3}, Steps: append(steps, picks(0, 11)...), Length: 6, Act: act, X: x}
}

func TestPlay(t *testing.T) {
	p := spawned(world.Exit, 0)
	texts := map[string]bool{}
	for i := range 64 {
		w, is := explore.Play(p, i)
		v, _ := world.New(p.Config)
		v.Run(p.Steps)
		for at := range 6 {
			v.Step(world.Step{A: i >> (5 - at) & 1, Act: world.Exit})
		}
		for !v.Quiet() {
			v.Run([]world.Step{{A: 0}, {A: 1}})
		}
		if !is || !w.Quiet() || !w.Memory().Same(v.Memory()) || !slices.Equal(w.Events(), v.Events()) {
			a, _ := glyph.Print(w.Events())
			b, _ := glyph.Print(v.Events())
			t.Fatalf("order %d: %s, want %s", i, a, b)
		}
		text, _ := glyph.Print(w.Events())
		texts[text] = true
	}
	if len(texts) < 2 {
		t.Error("orders don't matter", texts)
	}
	a, _ := explore.Play(p, 3)
	b, _ := explore.Play(p, 3)
	if a == b {
		t.Error("the worlds aren't apart")
	}
}

func TestPlayDoesTheActWithX(t *testing.T) {
	p := explore.Plan{Config: world.Config{P: 1, M: 1, G: 4}, Steps: picks(0, 10), Length: 1, Act: world.Spawn, X: 3}
	for _, c := range []struct {
		act  uint8
		x    int
		want string
	}{
		{world.Run, 3, "+0 →0m0p0"}, {world.Spawn, 3, "+0 →0m0p0 +3m0p0"}, {world.Spawn, 4, "+0 →0m0p0"}, {world.Wait, 3, "+0 →0m0p0 ⌛0m0p0=3"},
		{world.Block, 0, "+0 →0m0p0 ■0m0p0"}, {world.Yield, 0, "+0 →0m0p0 ↺0m0p0 →0m0p0"}, {world.Sleep, 9, "+0 →0m0p0 ☾0m0p0 !0m0p0 →0m0p0"},
		{200, 3, "+0 →0m0p0"},
	} {
		p.Act, p.X = c.act, c.x
		w, is := explore.Play(p, 0)
		if text, _ := glyph.Print(w.Events()); text != c.want || !is {
			t.Errorf("act %d of %d: %s, want %s", c.act, c.x, text, c.want)
		}
	}
}

func TestPlayOfWhatThereIsNot(t *testing.T) {
	p := spawned(world.Run, 0)
	for _, i := range []int{-1, 64, math.MinInt, math.MaxInt} {
		if w, is := explore.Play(p, i); w != nil || is {
			t.Errorf("order %d is there", i)
		}
	}
	for _, length := range []int{-1, 21, math.MinInt, math.MaxInt} {
		p.Length = length
		if w, is := explore.Play(p, 0); w != nil || is {
			t.Errorf("an order of the length %d is there", length)
		}
	}
	p.Length = 0
	if w, is := explore.Play(p, 0); w == nil || !is {
		t.Error("no order of the length 0")
	}
	if w, is := explore.Play(p, 1); w != nil || is {
		t.Error("two orders of the length 0")
	}
	for _, c := range []world.Config{{}, {P: 2, M: 1, G: 1}, {P: 1, M: 1, G: -1}, {P: -1, M: -1, G: 1}} {
		p.Config, p.Length = c, 0
		if w, is := explore.Play(p, 0); w != nil || is {
			t.Errorf("%v may be", c)
		}
	}
}

func TestAll(t *testing.T) {
	p := spawned(world.Exit, 0)
	kept := slices.Clone(p.Steps)
	want := explore.Outcome{Orders: 64, Texts: map[string]int{}}
	for i := range 64 {
		w, is := explore.Play(p, i)
		if is {
			want.Quiet++
		}
		if len(quiet.Check(w)) > 0 {
			want.Faults++
		}
		l := w.Events()
		text, _ := glyph.Word(l[len(l)-1])
		want.Texts[text]++
	}
	got, e := explore.All(p)
	if e != api.OK || got.Orders != 64 || got.Quiet != want.Quiet || got.Faults != want.Faults || !maps.Equal(got.Texts, want.Texts) {
		t.Errorf("All: %v, %d, want %v", got, e, want)
	}
	if want.Quiet != 64 || want.Faults != 0 || len(want.Texts) < 2 {
		t.Error(want)
	}
	if !slices.Equal(p.Steps, kept) {
		t.Error("what is handed in is changed")
	}
	got.Texts["x"] = 1
	if again, _ := explore.All(p); !maps.Equal(again.Texts, want.Texts) {
		t.Error("answers aren't new")
	}
}

func TestAllOfFew(t *testing.T) {
	got, e := explore.All(explore.Plan{Config: world.Config{P: 1, M: 1, G: 1}})
	if e != api.OK || got.Orders != 1 || got.Quiet != 1 || got.Faults != 0 || !maps.Equal(got.Texts, map[string]int{"→0m0p0": 1}) {
		t.Error(got, e)
	}
	got, e = explore.All(explore.Plan{Config: world.Config{P: 1, M: 2, G: 1}, Steps: picks(0, 10), Length: 2, Act: world.Block})
	if e != api.OK || got.Orders != 4 || got.Quiet != 4 || got.Faults != 0 || !maps.Equal(got.Texts, map[string]int{"■0m0p0": 3, "→0m0p0": 1}) {
		t.Error(got, e)
	}
}

func TestErrorsOfAll(t *testing.T) {
	one, two := world.Config{P: 1, M: 1, G: 1}, world.Config{P: 2, M: 2, G: 1}
	for _, c := range []struct {
		p    explore.Plan
		want api.Errno
	}{
		{explore.Plan{}, api.ErrArg},
		{explore.Plan{Config: world.Config{P: 2, M: 1, G: 1}, Length: 1}, api.ErrArg},
		{explore.Plan{Config: world.Config{P: 65, M: 65, G: 1}, Length: 13}, api.ErrArg},
		{explore.Plan{Config: one, Length: -1}, api.ErrArg},
		{explore.Plan{Config: two, Length: math.MinInt}, api.ErrArg},
		{explore.Plan{Config: two, Length: 21}, api.ErrArg},
		{explore.Plan{Config: two, Length: math.MaxInt}, api.ErrArg},
		{explore.Plan{Config: two, Length: 20}, api.ErrLong},
		{explore.Plan{Config: two, Length: 13}, api.ErrLong},
		{explore.Plan{Config: world.Config{P: 1, M: 65, G: 1}, Length: 2}, api.ErrLong},
	} {
		got, e := explore.All(c.p)
		if e != c.want || got.Orders != 0 || got.Quiet != 0 || got.Faults != 0 || len(got.Texts) != 0 {
			t.Errorf("All of %v: %v, %d, want %d", c.p, got, e, c.want)
		}
	}
	if explore.MaxOrders != 4096 {
		t.Error(explore.MaxOrders)
	}
	for _, p := range []explore.Plan{{Config: two, Length: 12}, {Config: world.Config{P: 1, M: 64, G: 1}, Length: 2}} {
		if got, e := explore.All(p); e != api.OK || got.Orders != 4096 || got.Quiet != 4096 || got.Faults != 0 {
			t.Errorf("All of %v: %v, %d", p, got, e)
		}
	}
}

func TestAllOrdersOfAnyPlan(t *testing.T) {
	for seed := range uint64(120) {
		x := seed*2862933555777941757 + 3037000493
		next := func(n int) int {
			x = x*6364136223846793005 + 1442695040888963407
			return int(x>>33) % n
		}
		p := 1 + next(3)
		plan := explore.Plan{Config: world.Config{P: p, M: p + next(3), G: 1 + next(6)}, Act: uint8(next(9)), X: next(7), Length: 3}
		if plan.Config.M == 2 {
			plan.Length = 7
		}
		for range 20 + next(150) {
			s := world.Step{A: next(plan.Config.M)}
			switch k := next(20); {
			case k == 0:
				s = world.Step{Kind: world.Tick, D: int64(next(6))}
			case k == 1:
				s = world.Step{Kind: world.Ready, A: next(7)}
			case k < 9:
				s.Act, s.X, s.D = uint8(next(9)), next(7), int64(next(9)-2)
			}
			plan.Steps = append(plan.Steps, s)
		}
		o, e := explore.All(plan)
		texts := 0
		for _, n := range o.Texts {
			texts += n
		}
		if e != api.OK || o.Quiet != o.Orders || o.Faults != 0 || texts != o.Orders || o.Orders != explore.Count(plan.Config.M, plan.Length) {
			t.Fatalf("seed %d: %v, %d", seed, o, e)
		}
	}
}
