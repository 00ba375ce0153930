package round_test

import (
	"math"
	"slices"
	"testing"

	"hostler/api"
	"hostler/event"
	"hostler/glyph"
	"hostler/mach"
	"hostler/round"
	"hostler/world"
)

func of(t *testing.T, p, m, g int) *world.World {
	t.Helper()
	w, e := world.New(world.Config{P: p, M: m, G: g})
	if e != api.OK {
		t.Fatal(e)
	}
	return w
}

func text(w *world.World) string {
	s, _ := glyph.Print(w.Events())
	return s
}

func TestExample(t *testing.T) {
	d := round.New(of(t, 1, 1, 1), round.Habit{})
	if !d.Quiet(10) || d.Rounds() != 10 {
		t.Error(d.Rounds())
	}
	if text(d.World()) != "+0 →0m0p0" {
		t.Error(text(d.World()))
	}
	if round.New(of(t, 1, 1, 1), round.Habit{}).Quiet(9) {
		t.Error("within 9")
	}
}

func TestNewIsWithoutRounds(t *testing.T) {
	w := of(t, 2, 3, 1)
	d := round.New(w, round.Habit{Kind: 1, Every: 2})
	if d.Rounds() != 0 || d.World() != w || w.Memory().Count() != of(t, 2, 3, 1).Memory().Count() {
		t.Error("it has rounds")
	}
}

func TestARoundPicksEachMachineOnceRising(t *testing.T) {
	// Goroutine 0 has spawned some; all machines are on their ways.
	w, v := of(t, 3, 5, 9), of(t, 3, 5, 9)
	for g := 1; g < 9; g++ {
		for _, x := range []*world.World{w, v} {
			for x.Machine(0).Place != mach.Exec {
				x.Step(world.Step{A: 0})
			}
			x.Step(world.Step{A: 0, Act: world.Spawn, X: g})
		}
	}
	d := round.New(w, round.Habit{})
	for n := range 200 {
		d.Round()
		for i := range 5 {
			v.Step(world.Step{A: i})
		}
		if !w.Memory().Same(v.Memory()) || w.Memory().Count() != v.Memory().Count() || d.Rounds() != n+1 {
			t.Fatalf("round %d: %s, want %s", n, text(w), text(v))
		}
		for i := range 5 {
			if w.Machine(i).Place != v.Machine(i).Place {
				t.Fatalf("round %d: machine %d", n, i)
			}
		}
	}
	if text(w) != text(v) || !w.Quiet() {
		t.Error(text(w))
	}
}

// acts counts the rounds in which the only machine is at Exec between its acts.
func acts(t *testing.T, h round.Habit, rounds int) (at []int, events string) {
	w := of(t, 1, 1, 1)
	d := round.New(w, h)
	execs := 0
	for range rounds {
		is := w.Machine(0).Place == mach.Exec
		d.Round()
		if is {
			execs++
			if w.Machine(0).Place != mach.Exec {
				at = append(at, execs)
			}
		}
	}
	return at, text(w)
}

func TestHabits(t *testing.T) {
	for _, c := range []struct {
		h      round.Habit
		at     []int
		events string
	}{
		{round.Habit{}, nil, "+0 →0m0p0"},
		{round.Habit{Kind: 0, Every: 3}, nil, "+0 →0m0p0"},
		{round.Habit{Kind: 4, Every: 1}, nil, "+0 →0m0p0"},
		{round.Habit{Kind: 255, Every: 1}, nil, "+0 →0m0p0"},
		{round.Habit{Kind: 1, Every: 7}, []int{7, 14, 21}, "+0 →0m0p0 ↺0m0p0 →0m0p0 ↺0m0p0 →0m0p0 ↺0m0p0"},
		{round.Habit{Kind: 1, Every: 30}, []int{30}, "+0 →0m0p0 ↺0m0p0 →0m0p0"},
		{round.Habit{Kind: 2, Every: 3}, []int{3}, "+0 →0m0p0 ■0m0p0"},
		{round.Habit{Kind: 2, Every: math.MaxInt}, nil, "+0 →0m0p0"},
		{round.Habit{Kind: 3, Every: 5}, []int{5}, "+0 →0m0p0 ✝0m0p0"},
		{round.Habit{Kind: 3, Every: 1}, []int{1}, "+0 →0m0p0 ✝0m0p0"},
		{round.Habit{Kind: 3, Every: 0}, []int{1}, "+0 →0m0p0 ✝0m0p0"},
		{round.Habit{Kind: 2, Every: -4}, []int{1}, "+0 →0m0p0 ■0m0p0"},
		{round.Habit{Kind: 3, Every: math.MinInt}, []int{1}, "+0 →0m0p0 ✝0m0p0"},
	} {
		at, events := acts(t, c.h, 82)
		if !slices.Equal(at, c.at) || events != c.events {
			t.Errorf("%v: at %v, %s, want %v, %s", c.h, at, events, c.at, c.events)
		}
	}
}

func TestPicksAreCountedByMachines(t *testing.T) {
	// Two goroutines run on two machines; machine 1 begins later.
	w := of(t, 2, 2, 2)
	for range 10 {
		w.Step(world.Step{A: 0})
	}
	w.Step(world.Step{A: 0, Act: world.Spawn, X: 1})
	d := round.New(w, round.Habit{Kind: 3, Every: 20})
	execs := map[int]int{}
	for range 200 {
		is := map[int]int{}
		for i := range 2 {
			if m := w.Machine(i); m.Place == mach.Exec {
				execs[i]++
				is[i] = m.G
			}
		}
		was := len(w.Events())
		d.Round()
		for _, e := range w.Events()[was:] {
			if _, ran := is[e.M]; e.Kind == event.Exit && (!ran || execs[e.M] != 20) {
				t.Errorf("machine %d: at its %d-th pick at Exec", e.M, execs[e.M])
			}
		}
	}
	if text(w) != "+0 →0m0p0 +1m0p0 →1m1p1 ✝0m0p0 ✝1m1p1" {
		t.Error(text(w))
	}
}

func TestUntil(t *testing.T) {
	for _, c := range []struct {
		most, so, wantAsked, wantRounds int
		want                            bool
	}{
		{math.MinInt, 0, 1, 0, true}, {-1, 1, 1, 0, false}, {0, 0, 1, 0, true}, {0, 1, 1, 0, false},
		{5, 0, 1, 0, true}, {5, 1, 2, 1, true}, {5, 3, 4, 3, true}, {5, 5, 6, 5, true}, {5, 6, 6, 5, false}, {math.MaxInt, 9, 10, 9, true},
	} {
		w := of(t, 1, 1, 1)
		d, asked := round.New(w, round.Habit{}), 0
		got := d.Until(c.most, func(x *world.World) bool {
			if x != w || d.Rounds() != asked {
				t.Error("asked at", d.Rounds())
			}
			asked++
			return d.Rounds() >= c.so
		})
		if got != c.want || asked != c.wantAsked || d.Rounds() != c.wantRounds {
			t.Errorf("%v: %v, asked %d times, %d rounds", c, got, asked, d.Rounds())
		}
	}
}

func TestANilQuestionIsNeverSo(t *testing.T) {
	d := round.New(of(t, 1, 1, 1), round.Habit{})
	if d.Until(4, nil) || d.Rounds() != 4 || d.Until(-1, nil) || d.Rounds() != 4 {
		t.Error(d.Rounds())
	}
}

func TestQuiet(t *testing.T) {
	d := round.New(of(t, 1, 1, 1), round.Habit{Kind: 2})
	if d.Quiet(-1) || d.Quiet(0) || d.Rounds() != 0 {
		t.Error("quiet at first")
	}
	if !d.Quiet(100) || d.Rounds() != 10 || !d.Quiet(100) || d.Rounds() != 10 || !d.Quiet(0) || !d.Quiet(-9) {
		t.Error(d.Rounds())
	}
	d.Round()
	if d.Quiet(0) || !d.Quiet(1000) || !d.World().Asleep(0) {
		t.Error(text(d.World()))
	}
}

func TestWhoIsNotAsleepGoesOn(t *testing.T) {
	w := of(t, 4, 6, 12)
	d := round.New(w, round.Habit{Kind: 1, Every: 3})
	for n := range 400 {
		if n%40 == 11 && w.Machine(0).Place == mach.Exec {
			w.Step(world.Step{A: 0, Act: world.Spawn, X: n / 40})
		}
		awake := map[int]string{}
		for i := range 6 {
			if m := w.Machine(i); !w.Asleep(i) && m.Place != mach.Exec && !m.Section.Waits() {
				awake[i] = state(m)
			}
		}
		d.Round()
		for i, was := range awake {
			if state(w.Machine(i)) == was {
				t.Fatalf("round %d: machine %d doesn't go on: %s", n, i, was)
			}
		}
	}
}

// state is a machine's place, and how far its section is.
func state(m mach.Machine) string {
	return mach.Name(m.Place) + string(rune('0'+m.I)) + string(rune('0'+m.Section.Stage+m.Section.Times*5)) + string(rune('0'+len(m.Rest)))
}
