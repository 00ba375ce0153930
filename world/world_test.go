package world_test

import (
	"math"
	"slices"
	"strconv"
	"strings"
	"testing"

	"hostler/api"
	"hostler/cell"
	"hostler/event"
	"hostler/glyph"
	"hostler/mach"
	"hostler/model"
	"hostler/section"
	"hostler/source"
	"hostler/status"
	"hostler/world"
)

func of(t *testing.T, p, m, g int) *world.World {
	t.Helper()
	w, e := world.New(world.Config{P: p, M: m, G: g})
	if w == nil || e != api.OK {
		t.Fatalf("New(%d, %d, %d): %d", p, m, g, e)
	}
	return w
}

// at is the name of a machine's place.
func at(w *world.World, i int) string {
	m := w.Machine(i)
	if m.Place == mach.Steal && m.I >= w.Config().P {
		// It is a Release in the same step.
		return mach.Name(mach.Release)
	}
	return mach.Name(m.Place)
}

// pick picks a machine, whose goroutine does something, if it is at Exec.
func pick(w *world.World, i int, act uint8, x int, d int64) bool {
	return w.Step(world.Step{Kind: world.Pick, Act: act, A: i, X: x, D: d})
}

// path picks a machine so many times, and tells where it is behind each pick:
// each place, and how often in a row.
func path(w *world.World, i, n int) string {
	var l []string
	last, times := "", 0
	end := func() {
		if times == 1 {
			l = append(l, last)
		} else if times > 1 {
			l = append(l, last+strconv.Itoa(times))
		}
	}
	for range n {
		pick(w, i, world.Run, 0, 0)
		if p := at(w, i); p == last {
			times++
		} else {
			end()
			last, times = p, 1
		}
	}
	end()
	return strings.Join(l, " ")
}

// goes checks the path of a machine, which is as long as the one wanted.
func goes(t *testing.T, w *world.World, i int, want string) {
	t.Helper()
	n := 0
	for _, p := range strings.Fields(want) {
		times, e := strconv.Atoi(strings.TrimLeft(p, "abcdefghijklmnopqrstuvwxyz"))
		if e != nil {
			times = 1
		}
		n += times
	}
	if got := path(w, i, n); got != want {
		t.Fatalf("machine %d goes %s, want %s", i, got, want)
	}
}

// act lets a machine's goroutine do something.
func act(t *testing.T, w *world.World, i int, a uint8, x int, d int64) {
	t.Helper()
	if at(w, i) != "exec" || !pick(w, i, a, x, d) {
		t.Fatalf("machine %d, at %s, doesn't act %d", i, at(w, i), a)
	}
}

// to picks a machine until it is somewhere.
func to(t *testing.T, w *world.World, i int, place string) {
	t.Helper()
	for range 10000 {
		if at(w, i) == place {
			return
		}
		pick(w, i, world.Run, 0, 0)
	}
	t.Fatalf("machine %d doesn't come to %s", i, place)
}

// seen checks all events, as text.
func seen(t *testing.T, w *world.World, want string) {
	t.Helper()
	if got, _ := glyph.Print(w.Events()); got != want {
		t.Fatalf("seen %s, want %s", got, want)
	}
}

// ends checks the last events, as text.
func ends(t *testing.T, w *world.World, want string) {
	t.Helper()
	if got, _ := glyph.Print(w.Events()); !strings.HasSuffix(got, " "+want) {
		t.Fatalf("seen %s, want at the end %s", got, want)
	}
}

func equal[T comparable](t *testing.T, what string, got, want T) {
	t.Helper()
	if got != want {
		t.Errorf("%s: %v, want %v", what, got, want)
	}
}

// started is where a machine that has a processor goes from Sched, if the
// queue has one.
const started = "local4 global4 dispatch exec"

// lulled is where the only machine of one processor goes from Sched, if there
// is nothing anywhere.
const lulled = "local4 global4 spinup release4 drop look4 lookglobal4 stop4 check4 sleep"

// alone is a world of 1, 1, g whose goroutine 0 runs.
func alone(t *testing.T, g int) *world.World {
	t.Helper()
	w := of(t, 1, 1, g)
	goes(t, w, 0, started)
	return w
}

func TestNumbers(t *testing.T) {
	for i, n := range []uint8{world.Pick, world.Tick, world.Ready} {
		equal(t, "a kind of step", n, uint8(i))
	}
	for i, n := range []uint8{world.Run, world.Yield, world.Block, world.Exit, world.Spawn, world.Wake, world.Sleep, world.Wait} {
		equal(t, "an act", n, uint8(i))
	}
}

func TestNew(t *testing.T) {
	for _, c := range []world.Config{
		{}, {P: 0, M: 1, G: 1}, {P: -1, M: 1, G: 1}, {P: 65, M: 100, G: 1}, {P: 2, M: 1, G: 1}, {P: 1, M: 0, G: 1}, {P: 1, M: 129, G: 1},
		{P: 1, M: 1, G: 0}, {P: 1, M: 1, G: -1}, {P: 1, M: 1, G: 4097}, {P: math.MaxInt, M: math.MaxInt, G: math.MaxInt},
		{P: math.MinInt, M: math.MinInt, G: math.MinInt}, {P: 1, M: math.MaxInt, G: 1}, {P: 1, M: 1, G: math.MaxInt},
	} {
		if w, e := world.New(c); w != nil || e != api.ErrArg {
			t.Errorf("New(%v): %v, %d", c, w, e)
		}
	}
	for _, c := range []world.Config{{P: 1, M: 1, G: 1}, {P: 64, M: 128, G: 4096}, {P: 64, M: 64, G: 1}, {P: 1, M: 128, G: 9}, {P: 3, M: 5, G: 7}} {
		w := of(t, c.P, c.M, c.G)
		if w.Config() != c {
			t.Errorf("%v: its Config is %v", c, w.Config())
		}
		equal(t, "words", w.Memory().Len(), 2*(c.P+2)+1+c.M+c.G)
	}
}

func TestAtFirst(t *testing.T) {
	w := of(t, 3, 5, 4)
	seen(t, w, "+0")
	if !slices.Equal(w.Global(), []int{0}) {
		t.Error("the queue", w.Global())
	}
	m := w.Machine(0)
	if m.Place != mach.Sched || m.P != 0 || m.G != -1 || m.Next != -1 || m.Got != -1 || m.Target != -1 || m.Spin || m.In || len(m.Rest) != 0 {
		t.Error("machine 0", m)
	}
	for i := 1; i < 5; i++ {
		m := w.Machine(i)
		if m.Place != mach.Sleep || m.P != -1 || m.G != -1 || m.Next != -1 || m.Got != -1 || m.Target != -1 || !w.Asleep(i) {
			t.Error("machine", i, m)
		}
	}
	idle := w.Idle()
	if idle.HasP(0) || !idle.HasP(1) || !idle.HasP(2) || idle.CountP() != 2 || idle.Pending() != 0 {
		t.Error("processors")
	}
	if i, ok := idle.Poller(); i != 1 || !ok || idle.CountM() != 3 {
		t.Error("the poller", i, ok)
	}
	for _, want := range []int{4, 3, 2, 1} {
		i, _ := idle.TakeM()
		equal(t, "TakeM", i, want)
	}
	for p := range 3 {
		if len(w.Ring(p)) != 0 || w.Turns(p) != 0 {
			t.Error("processor", p)
		}
	}
	equal(t, "goroutine 0", w.Status(0), status.Runnable)
	equal(t, "goroutine 1", w.Status(1), status.None)
	equal(t, "spinning", w.Spinning(), 0)
	equal(t, "time", w.Source().Now(), 0)
	equal(t, "out", w.Source().Len(), 0)
	if w.Quiet() || w.Asleep(0) {
		t.Error("it is quiet")
	}
	words := w.Memory()
	for i := range words.Len() {
		want := uint64(0)
		if i == 2*5+1+5 {
			want = 1
		}
		equal(t, "word "+strconv.Itoa(i), words.Load(i), want)
	}
}

func TestExample(t *testing.T) {
	w := of(t, 1, 1, 1)
	for range 9 {
		if !pick(w, 0, world.Run, 0, 0) || w.Quiet() {
			t.Fatal("nothing happened")
		}
	}
	equal(t, "behind 9 picks", w.Status(0), status.Runnable)
	pick(w, 0, world.Run, 0, 0)
	equal(t, "behind 10 picks", w.Status(0), status.Running)
	equal(t, "its machine's", w.Machine(0).G, 0)
	seen(t, w, "+0 →0m0p0")
	if !w.Quiet() || at(w, 0) != "exec" {
		t.Error("it isn't quiet")
	}
}

func TestTheWayToExec(t *testing.T) {
	w := of(t, 1, 1, 1)
	equal(t, "turns", w.Turns(0), 0)
	goes(t, w, 0, "local")
	equal(t, "turns", w.Turns(0), 1)
	goes(t, w, 0, "local3 global3")
	equal(t, "Got", w.Machine(0).Got, -1)
	goes(t, w, 0, "global")
	m := w.Machine(0)
	if m.Got != 0 || len(m.Rest) != 0 || len(w.Global()) != 0 || !m.In || m.Section.Stage != section.Free {
		t.Error("it isn't in hand from that step on", m)
	}
	goes(t, w, 0, "dispatch")
	if m := w.Machine(0); m.In || m.Got != 0 || w.Status(0) != status.Runnable {
		t.Error("at dispatch", m)
	}
	goes(t, w, 0, "exec3")
	if m := w.Machine(0); m.G != 0 || m.Got != -1 || m.P != 0 || m.Spin {
		t.Error("at exec", m)
	}
}

func TestNothingHappens(t *testing.T) {
	w := of(t, 2, 3, 2)
	to(t, w, 0, "exec")
	words, events := w.Memory(), len(w.Events())
	for _, s := range []world.Step{
		{Kind: 3}, {Kind: 255}, {A: -1}, {A: 3}, {A: math.MinInt}, {A: math.MaxInt}, {A: 1}, {A: 2},
		{Kind: world.Ready, A: -1}, {Kind: world.Ready, A: 65536}, {Kind: world.Ready, A: math.MinInt}, {Kind: world.Ready, A: math.MaxInt},
		{Act: 8}, {Act: 255},
		{Act: world.Spawn, X: 0}, {Act: world.Spawn, X: -1}, {Act: world.Spawn, X: 2}, {Act: world.Spawn, X: math.MaxInt}, {Act: world.Spawn, X: math.MinInt},
		{Act: world.Wake, X: 0}, {Act: world.Wake, X: 1}, {Act: world.Wake, X: -1}, {Act: world.Wake, X: 2}, {Act: world.Wake, X: math.MaxInt},
		{Act: world.Wait, X: -1}, {Act: world.Wait, X: 65536}, {Act: world.Wait, X: math.MaxInt}, {Act: world.Wait, X: math.MinInt},
	} {
		if w.Step(s) || w.Run([]world.Step{s, s}) != 0 {
			t.Errorf("%v: something happened", s)
		}
		if !w.Memory().Same(words) || len(w.Events()) != events || at(w, 0) != "exec" || !w.Quiet() {
			t.Fatalf("%v: something changed", s)
		}
	}
	for _, s := range []world.Step{{}, {Kind: world.Tick}, {Kind: world.Tick, D: -4}, {Kind: world.Ready, A: 0}, {Kind: world.Ready, A: 65535}} {
		if !w.Step(s) || w.Run([]world.Step{s, {A: 9}, s}) != 2 {
			t.Errorf("%v: nothing happened", s)
		}
	}
}

func TestActsElsewhereThanAtExec(t *testing.T) {
	w := of(t, 1, 1, 2)
	for range 10 {
		if !pick(w, 0, world.Exit, 1, 0) {
			t.Fatal("nothing happened")
		}
	}
	seen(t, w, "+0 →0m0p0")
	equal(t, "at", at(w, 0), "exec")
}

func TestYield(t *testing.T) {
	w := alone(t, 1)
	act(t, w, 0, world.Yield, 0, 0)
	equal(t, "status", w.Status(0), status.Runnable)
	seen(t, w, "+0 →0m0p0 ↺0m0p0")
	if m := w.Machine(0); m.G != -1 || m.Got != 0 || m.P != 0 || at(w, 0) != "putone" {
		t.Error(m)
	}
	goes(t, w, 0, "putone2")
	equal(t, "queue", len(w.Global()), 0)
	goes(t, w, 0, "putone")
	if m := w.Machine(0); m.Got != -1 || !slices.Equal(w.Global(), []int{0}) {
		t.Error(m, w.Global())
	}
	goes(t, w, 0, "load claim find")
	equal(t, "spinning", w.Spinning(), 1)
	goes(t, w, 0, "find3")
	equal(t, "spinning", w.Spinning(), 1)
	goes(t, w, 0, "find")
	equal(t, "spinning", w.Spinning(), 0)
	goes(t, w, 0, "sched "+started)
	seen(t, w, "+0 →0m0p0 ↺0m0p0 →0m0p0")
	equal(t, "turns", w.Turns(0), 2)
}

func TestBlockAndTheWayToSleep(t *testing.T) {
	w := alone(t, 1)
	act(t, w, 0, world.Block, 0, 0)
	equal(t, "status", w.Status(0), status.Blocked)
	seen(t, w, "+0 →0m0p0 ■0m0p0")
	if m := w.Machine(0); m.G != -1 || m.Got != -1 || at(w, 0) != "sched" {
		t.Error(m)
	}
	goes(t, w, 0, "local4 global4 spinup")
	equal(t, "spinning", w.Spinning(), 0)
	goes(t, w, 0, "release")
	equal(t, "spinning", w.Spinning(), 1)
	equal(t, "Spin", w.Machine(0).Spin, true)
	goes(t, w, 0, "release2")
	equal(t, "P", w.Machine(0).P, 0)
	goes(t, w, 0, "release")
	equal(t, "P", w.Machine(0).P, -1)
	equal(t, "idle", w.Idle().HasP(0), true)
	goes(t, w, 0, "drop")
	equal(t, "spinning", w.Spinning(), 1)
	goes(t, w, 0, "look")
	equal(t, "spinning", w.Spinning(), 0)
	if m := w.Machine(0); m.Spin || m.I != 0 {
		t.Error(m)
	}
	goes(t, w, 0, "look3 lookglobal4 stop3")
	_, is := w.Idle().Poller()
	equal(t, "a poller", is, false)
	goes(t, w, 0, "stop")
	i, is := w.Idle().Poller()
	equal(t, "the poller", i, 0)
	equal(t, "a poller", is, true)
	goes(t, w, 0, "check4")
	equal(t, "asleep", w.Asleep(0), false)
	goes(t, w, 0, "sleep")
	if !w.Asleep(0) || !w.Quiet() || pick(w, 0, world.Run, 0, 0) {
		t.Error("it isn't asleep")
	}
	if m := w.Machine(0); m.P != -1 || m.G != -1 || m.Next != -1 || m.Got != -1 || m.Target != -1 || m.Spin || m.In {
		t.Error(m)
	}
}

func TestExit(t *testing.T) {
	w := alone(t, 1)
	act(t, w, 0, world.Exit, 0, 0)
	equal(t, "status", w.Status(0), status.Dead)
	seen(t, w, "+0 →0m0p0 ✝0m0p0")
	goes(t, w, 0, lulled)
	equal(t, "asleep", w.Asleep(0), true)
}

func TestSpawnAndWake(t *testing.T) {
	w := alone(t, 3)
	act(t, w, 0, world.Spawn, 1, 0)
	equal(t, "status", w.Status(1), status.Runnable)
	if m := w.Machine(0); m.G != 0 || m.Got != 1 || at(w, 0) != "putnext" {
		t.Error(m)
	}
	goes(t, w, 0, "putnext2")
	equal(t, "ring", len(w.Ring(0)), 0)
	goes(t, w, 0, "putnext")
	if m := w.Machine(0); m.Got != -1 || !slices.Equal(w.Ring(0), []int{1}) {
		t.Error(m, w.Ring(0))
	}
	goes(t, w, 0, "load claim find5 exec")
	act(t, w, 0, world.Spawn, 2, 0)
	goes(t, w, 0, "putnext3 load claim find5 exec")
	if !slices.Equal(w.Ring(0), []int{1, 2}) {
		t.Error(w.Ring(0))
	}
	act(t, w, 0, world.Block, 0, 0)
	goes(t, w, 0, "local4 dispatch exec")
	equal(t, "who runs", w.Machine(0).G, 2)
	act(t, w, 0, world.Wake, 0, 0)
	equal(t, "status", w.Status(0), status.Runnable)
	goes(t, w, 0, "putnext3 load claim find5 exec")
	if pick(w, 0, world.Wake, 0, 0) || pick(w, 0, world.Spawn, 1, 0) || pick(w, 0, world.Wake, 1, 0) {
		t.Error("woken, spawned twice")
	}
	act(t, w, 0, world.Exit, 0, 0)
	goes(t, w, 0, "local4 dispatch exec")
	if pick(w, 0, world.Spawn, 2, 0) || pick(w, 0, world.Wake, 2, 0) {
		t.Error("the dead one")
	}
	seen(t, w, "+0 →0m0p0 +1m0p0 +2m0p0 ■0m0p0 →2m0p0 !0m0p0 ✝2m0p0 →0m0p0")
}

func TestSleepAndTick(t *testing.T) {
	w := alone(t, 1)
	w.Step(world.Step{Kind: world.Tick, D: 100})
	act(t, w, 0, world.Sleep, 9, 5)
	equal(t, "at", at(w, 0), "park")
	equal(t, "Arg", w.Machine(0).Arg, 5)
	goes(t, w, 0, "park2")
	equal(t, "out", w.Source().Out(0), false)
	goes(t, w, 0, "park")
	equal(t, "out", w.Source().Out(0), true)
	equal(t, "status", w.Status(0), status.Running)
	equal(t, "G", w.Machine(0).G, 0)
	w.Step(world.Step{Kind: world.Tick, D: 3})
	goes(t, w, 0, "park")
	equal(t, "status", w.Status(0), status.Sleeping)
	equal(t, "G", w.Machine(0).G, -1)
	seen(t, w, "+0 →0m0p0 ☾0m0p0=105")
	goes(t, w, 0, "sched "+lulled)
	w.Step(world.Step{Kind: world.Tick, D: 1})
	w.Step(world.Step{Kind: world.Tick, D: -1})
	equal(t, "asleep at 104", w.Asleep(0), true)
	w.Step(world.Step{Kind: world.Tick, D: 1})
	_, is := w.Idle().Poller()
	if w.Asleep(0) || is || at(w, 0) != "sleep" || w.Quiet() {
		t.Error("the poller isn't told")
	}
	goes(t, w, 0, "deliver3")
	equal(t, "Got", w.Machine(0).Got, -1)
	goes(t, w, 0, "deliver")
	equal(t, "Got", w.Machine(0).Got, 0)
	goes(t, w, 0, "mark")
	equal(t, "status", w.Status(0), status.Sleeping)
	goes(t, w, 0, "putone")
	equal(t, "status", w.Status(0), status.Runnable)
	ends(t, w, "!0m0")
	goes(t, w, 0, "putone3 load claim find3")
	equal(t, "pending", w.Idle().Pending(), 0)
	goes(t, w, 0, "find")
	equal(t, "pending", w.Idle().Pending(), 1)
	goes(t, w, 0, "deliver4 stop3")
	equal(t, "P", w.Machine(0).P, -1)
	goes(t, w, 0, "stop")
	if m := w.Machine(0); m.P != 0 || !m.Spin || w.Idle().Pending() != 0 || w.Spinning() != 1 {
		t.Error(m, w.Spinning())
	}
	goes(t, w, 0, "global4 unspin load")
	if m := w.Machine(0); m.Spin || w.Spinning() != 0 {
		t.Error(m, w.Spinning())
	}
	goes(t, w, 0, "claim find5 dispatch exec")
	seen(t, w, "+0 →0m0p0 ☾0m0p0=105 !0m0 →0m0p0")
}

func TestSleepThatIsDueAtOnce(t *testing.T) {
	for _, d := range []int64{0, -1, math.MinInt64} {
		w := alone(t, 1)
		w.Step(world.Step{Kind: world.Tick, D: 7})
		act(t, w, 0, world.Sleep, 0, d)
		goes(t, w, 0, "park4 deliver4 mark putone4 load claim find5 deliver4 sched "+started)
		seen(t, w, "+0 →0m0p0 ☾0m0p0=7 !0m0p0 →0m0p0")
	}
}

func TestSleepTillTheEnd(t *testing.T) {
	w := alone(t, 1)
	w.Step(world.Step{Kind: world.Tick, D: 7})
	act(t, w, 0, world.Sleep, 0, math.MaxInt64)
	goes(t, w, 0, "park4 sched "+lulled)
	ends(t, w, "☾0m0p0=9223372036854775807")
	w.Step(world.Step{Kind: world.Tick, D: math.MaxInt64 - 8})
	equal(t, "asleep ahead of the end", w.Asleep(0), true)
	w.Step(world.Step{Kind: world.Tick, D: math.MaxInt64})
	equal(t, "asleep at the end", w.Asleep(0), false)
	to(t, w, 0, "exec")
}

func TestWaitAndReady(t *testing.T) {
	w := alone(t, 1)
	act(t, w, 0, world.Wait, 65535, 3)
	equal(t, "at", at(w, 0), "await")
	equal(t, "Arg", w.Machine(0).Arg, 65535)
	goes(t, w, 0, "await3")
	if !w.Source().Out(0) || w.Status(0) != status.Running {
		t.Error("it doesn't wait yet")
	}
	goes(t, w, 0, "await")
	equal(t, "status", w.Status(0), status.Waiting)
	equal(t, "G", w.Machine(0).G, -1)
	goes(t, w, 0, "sched "+lulled)
	w.Step(world.Step{Kind: world.Ready, A: 5})
	w.Step(world.Step{Kind: world.Tick, D: 99})
	equal(t, "asleep", w.Asleep(0), true)
	w.Step(world.Step{Kind: world.Ready, A: 65535})
	equal(t, "asleep", w.Asleep(0), false)
	goes(t, w, 0, "deliver4 mark putone4 load claim find4 deliver4 stop4 global4 unspin load claim find5 dispatch exec")
	seen(t, w, "+0 →0m0p0 ⌛0m0p0=65535 !0m0 →0m0p0")
	act(t, w, 0, world.Wait, 5, 0)
	goes(t, w, 0, "await4 deliver4 mark putone4 load claim find5 deliver4 sched "+started)
	ends(t, w, "⌛0m0p0=5 !0m0p0 →0m0p0")
}

func TestWaitWithAnError(t *testing.T) {
	w := alone(t, 2)
	act(t, w, 0, world.Spawn, 1, 0)
	goes(t, w, 0, "putnext3 load claim find5 exec")
	act(t, w, 0, world.Wait, 3, 0)
	goes(t, w, 0, "await4 sched local4 dispatch exec")
	act(t, w, 0, world.Wait, 3, 0)
	goes(t, w, 0, "await3 exec")
	if m := w.Machine(0); m.G != 1 || w.Status(1) != status.Running || w.Source().Out(1) {
		t.Error(m)
	}
	seen(t, w, "+0 →0m0p0 +1m0p0 ⌛0m0p0=3 →1m0p0")
	for fd := range api.MaxFD - 1 {
		w.Step(world.Step{Kind: world.Ready, A: 10 + fd})
	}
	equal(t, "one more is ready", w.Step(world.Step{Kind: world.Ready, A: 9}), false)
	act(t, w, 0, world.Wait, 9, 0)
	goes(t, w, 0, "await3 exec")
	equal(t, "who runs", w.Machine(0).G, 1)
}

// three is a world of 1, 1, 3 whose goroutines all sleep until 5.
func three(t *testing.T) *world.World {
	w := alone(t, 3)
	for g := 1; g < 3; g++ {
		act(t, w, 0, world.Spawn, g, 0)
		to(t, w, 0, "exec")
	}
	for range 3 {
		act(t, w, 0, world.Sleep, 0, 5)
		for at(w, 0) != "exec" && !w.Asleep(0) {
			pick(w, 0, world.Run, 0, 0)
		}
	}
	return w
}

func TestMoreThanOneOfTheQueue(t *testing.T) {
	w := three(t)
	w.Step(world.Step{Kind: world.Tick, D: 5})
	goes(t, w, 0, "deliver4 mark putone4 load claim find4 deliver4 mark putone4 load deliver4 mark putone4 load deliver4 stop4 global3")
	if !slices.Equal(w.Global(), []int{0, 2, 1}) {
		t.Error(w.Global())
	}
	goes(t, w, 0, "global")
	if m := w.Machine(0); m.Got != 0 || !slices.Equal(m.Rest, []int{2, 1}) || len(w.Global()) != 0 {
		t.Error(m, w.Global())
	}
	goes(t, w, 0, "putrest3")
	equal(t, "ring", len(w.Ring(0)), 0)
	goes(t, w, 0, "putrest")
	if m := w.Machine(0); m.Got != 0 || len(m.Rest) != 0 || !slices.Equal(w.Ring(0), []int{2, 1}) {
		t.Error(m, w.Ring(0))
	}
	goes(t, w, 0, "unspin load claim find5 dispatch exec")
	act(t, w, 0, world.Block, 0, 0)
	goes(t, w, 0, "local4 dispatch exec")
	seen(t, w, "+0 →0m0p0 +1m0p0 +2m0p0 ☾0m0p0=5 →2m0p0 ☾2m0p0=5 →1m0p0 ☾1m0p0=5 !0m0 !2m0 !1m0 →0m0p0 ■0m0p0 →2m0p0")
}

func TestARestOfOne(t *testing.T) {
	w := alone(t, 2)
	act(t, w, 0, world.Spawn, 1, 0)
	to(t, w, 0, "exec")
	act(t, w, 0, world.Sleep, 0, 5)
	to(t, w, 0, "exec")
	act(t, w, 0, world.Sleep, 0, 5)
	for !w.Asleep(0) {
		pick(w, 0, world.Run, 0, 0)
	}
	w.Step(world.Step{Kind: world.Tick, D: 5})
	to(t, w, 0, "global")
	goes(t, w, 0, "global3 putrest4 unspin load claim find5 dispatch exec")
	if !slices.Equal(w.Ring(0), []int{1}) || w.Machine(0).G != 0 {
		t.Error(w.Ring(0))
	}
}

func TestARestWithoutSpin(t *testing.T) {
	w := three(t)
	w.Step(world.Step{Kind: world.Tick, D: 5})
	to(t, w, 0, "exec")
	// Both others yield behind goroutine 0, so that the queue has three.
	for range 3 {
		act(t, w, 0, world.Yield, 0, 0)
		to(t, w, 0, "sched")
		if len(w.Global()) < 3 {
			to(t, w, 0, "exec")
		}
	}
	goes(t, w, 0, "local4 global4 putrest4 load claim find5 dispatch exec")
	if !slices.Equal(w.Ring(0), []int{2, 1}) || w.Machine(0).G != 0 {
		t.Error(w.Ring(0), w.Machine(0).G)
	}
}

func TestTheRingIsFull(t *testing.T) {
	w := alone(t, 300)
	for g := 1; g <= 257; g++ {
		act(t, w, 0, world.Spawn, g, 0)
		goes(t, w, 0, "putnext3 load claim find5 exec")
	}
	equal(t, "ring", len(w.Ring(0)), 257)
	act(t, w, 0, world.Spawn, 258, 0)
	goes(t, w, 0, "putnext3")
	rest := w.Machine(0).Rest
	if len(rest) != 129 || rest[0] != 1 || rest[127] != 128 || rest[128] != 257 || w.Machine(0).Got != -1 || len(w.Ring(0)) != 129 {
		t.Error(rest)
	}
	goes(t, w, 0, "putover3")
	equal(t, "queue", len(w.Global()), 0)
	goes(t, w, 0, "putover")
	if !slices.Equal(w.Global(), rest) || len(w.Machine(0).Rest) != 0 {
		t.Error(w.Global())
	}
	goes(t, w, 0, "load claim find5 exec")
	equal(t, "ring", w.Ring(0)[128], 258)
}

func TestTheMostOfTheQueue(t *testing.T) {
	w := alone(t, 600)
	for g := 1; g <= 500; g++ {
		act(t, w, 0, world.Spawn, g, 0)
		to(t, w, 0, "exec")
	}
	equal(t, "in all", len(w.Global())+len(w.Ring(0)), 500)
	for at(w, 0) == "exec" {
		act(t, w, 0, world.Block, 0, 0)
		for at(w, 0) != "exec" && at(w, 0) != "putrest" {
			pick(w, 0, world.Run, 0, 0)
		}
	}
	n := len(w.Global())
	equal(t, "rest", len(w.Machine(0).Rest), 127)
	goes(t, w, 0, "putrest3 load claim find5 dispatch exec")
	equal(t, "ring", len(w.Ring(0)), 127)
	equal(t, "queue", len(w.Global()), n)
}

func TestFair(t *testing.T) {
	// brought is a world whose processor had 60 turns.
	brought := func() *world.World {
		w := alone(t, 2)
		for range 59 {
			act(t, w, 0, world.Yield, 0, 0)
			to(t, w, 0, "sched")
			goes(t, w, 0, started)
		}
		equal(t, "turns", w.Turns(0), 60)
		return w
	}
	w := brought()
	act(t, w, 0, world.Spawn, 1, 0)
	to(t, w, 0, "exec")
	act(t, w, 0, world.Yield, 0, 0)
	goes(t, w, 0, "putone3 load claim find5 sched deliver4 one3")
	equal(t, "turns", w.Turns(0), 61)
	goes(t, w, 0, "one")
	if w.Machine(0).Got != 0 || len(w.Global()) != 0 {
		t.Error("it isn't the queue's")
	}
	goes(t, w, 0, "dispatch exec")
	act(t, w, 0, world.Block, 0, 0)
	goes(t, w, 0, "local4 dispatch exec")
	equal(t, "turns", w.Turns(0), 62)

	w = brought()
	act(t, w, 0, world.Spawn, 1, 0)
	to(t, w, 0, "exec")
	act(t, w, 0, world.Block, 0, 0)
	goes(t, w, 0, "deliver4 one4 local4 dispatch exec")
	equal(t, "who runs", w.Machine(0).G, 1)

	w = brought()
	act(t, w, 0, world.Spawn, 1, 0)
	to(t, w, 0, "exec")
	act(t, w, 0, world.Sleep, 0, 5)
	goes(t, w, 0, "park4 sched")
	w.Step(world.Step{Kind: world.Tick, D: 5})
	goes(t, w, 0, "deliver4 mark putone4 load claim find5 deliver4 one4 dispatch exec")
	equal(t, "who runs", w.Machine(0).G, 0)
}

// spawned is a world of 2, 2, 4 whose goroutine 0 has spawned 1, and given
// processor 1 to machine 1.
func spawned(t *testing.T) *world.World {
	t.Helper()
	w := of(t, 2, 2, 4)
	goes(t, w, 0, started)
	act(t, w, 0, world.Spawn, 1, 0)
	goes(t, w, 0, "putnext3 load claim find3")
	if w.Machine(1).Next != -1 || !w.Idle().HasP(1) {
		t.Error("it is given too soon")
	}
	goes(t, w, 0, "find")
	if w.Machine(1).Next != 1 || w.Machine(0).Target != 1 || w.Idle().HasP(1) || w.Idle().Pending() != 0 {
		t.Error("it isn't given", w.Machine(1))
	}
	if _, is := w.Idle().Poller(); is {
		t.Error("who is given one is the poller")
	}
	goes(t, w, 0, "wake")
	if !w.Asleep(1) || pick(w, 1, world.Run, 0, 0) {
		t.Error("it isn't asleep")
	}
	goes(t, w, 0, "exec")
	if w.Asleep(1) || w.Machine(0).Target != -1 || at(w, 1) != "sleep" {
		t.Error("it isn't woken")
	}
	equal(t, "spinning", w.Spinning(), 1)
	return w
}

func TestWakeAndSteal(t *testing.T) {
	w := spawned(t)
	goes(t, w, 1, "global")
	if m := w.Machine(1); m.P != 1 || m.Next != -1 || !m.Spin {
		t.Error(m)
	}
	equal(t, "its note", w.Memory().Load(2*4+1+1), 0)
	goes(t, w, 1, "global3 steal3")
	equal(t, "I", w.Machine(1).I, 1)
	goes(t, w, 1, "steal")
	if m := w.Machine(1); m.Got != 1 || len(w.Ring(0)) != 0 {
		t.Error(m)
	}
	goes(t, w, 1, "unspin")
	equal(t, "spinning", w.Spinning(), 1)
	goes(t, w, 1, "load")
	equal(t, "spinning", w.Spinning(), 0)
	goes(t, w, 1, "claim find5 dispatch exec")
	seen(t, w, "+0 →0m0p0 +1m0p0 →1m1p1")
	if !w.Quiet() {
		t.Error("it isn't quiet")
	}
}

func TestStealHalf(t *testing.T) {
	w := spawned(t)
	for g := 2; g < 4; g++ {
		act(t, w, 0, world.Spawn, g, 0)
		// Somebody spins already.
		goes(t, w, 0, "putnext3 load exec")
	}
	goes(t, w, 1, "global4 steal4 unspin")
	if !slices.Equal(w.Ring(0), []int{2, 3}) || w.Machine(1).Got != 1 || len(w.Ring(1)) != 0 {
		t.Error(w.Ring(0))
	}
	w = of(t, 2, 2, 8)
	goes(t, w, 0, started)
	for g := 1; g < 8; g++ {
		act(t, w, 0, world.Spawn, g, 0)
		to(t, w, 0, "exec")
	}
	goes(t, w, 1, "global4 steal4 putrest")
	if m := w.Machine(1); m.Got != 1 || !slices.Equal(m.Rest, []int{2, 3}) || !slices.Equal(w.Ring(0), []int{4, 5, 6, 7}) {
		t.Error(m, w.Ring(0))
	}
	goes(t, w, 1, "putrest3 unspin load claim find5 dispatch exec")
	if !slices.Equal(w.Ring(1), []int{2, 3}) {
		t.Error(w.Ring(1))
	}
}

func TestStealFromEachOther(t *testing.T) {
	w := of(t, 4, 4, 2)
	goes(t, w, 0, started)
	act(t, w, 0, world.Spawn, 1, 0)
	goes(t, w, 0, "putnext3 load claim find4 wake exec")
	// The one that is idle for the shortest time, and the least processor.
	if w.Machine(3).Next != 1 || w.Asleep(3) || !w.Asleep(2) {
		t.Error(w.Machine(3))
	}
	goes(t, w, 3, "global4 steal")
	var locks []int
	for range 3 {
		m := w.Machine(3)
		locks = append(locks, mach.Lock(m, 4))
		path(w, 3, 4)
	}
	if !slices.Equal(locks, []int{3, 4, 1}) {
		t.Error("it steals by locks", locks)
	}
	equal(t, "Got", w.Machine(3).Got, 1)
	goes(t, w, 3, "load claim find4 wake dispatch exec")
	ends(t, w, "→1m3p1")
	equal(t, "given", w.Machine(2).Next, 2)
}

func TestNothingToSteal(t *testing.T) {
	w := spawned(t)
	act(t, w, 0, world.Block, 0, 0)
	goes(t, w, 0, "local4 dispatch exec")
	goes(t, w, 1, "global4 steal4 release4 drop look8 lookglobal4 stop4 check4 sleep")
	if i, is := w.Idle().Poller(); i != 1 || !is || !w.Asleep(1) || !w.Idle().HasP(1) || w.Spinning() != 0 {
		t.Error("machine 1", i, is)
	}
	equal(t, "quiet", w.Quiet(), true)
}

func TestReleaseTakesALastLook(t *testing.T) {
	w := spawned(t)
	act(t, w, 0, world.Block, 0, 0)
	goes(t, w, 0, "local4 dispatch exec")
	goes(t, w, 1, "global4 steal4 release")
	act(t, w, 0, world.Yield, 0, 0)
	goes(t, w, 0, "putone3 load sched")
	goes(t, w, 1, "release3 unspin load claim find5 dispatch exec")
	ends(t, w, "→1m1p1")
	goes(t, w, 0, "local4 global4 spinup")
}

func TestLookAndRetake(t *testing.T) {
	w := spawned(t)
	act(t, w, 0, world.Block, 0, 0)
	goes(t, w, 0, "local4 dispatch exec")
	goes(t, w, 1, "global4 steal4 release4 drop look")
	act(t, w, 0, world.Spawn, 2, 0)
	goes(t, w, 0, "putnext3 load")
	goes(t, w, 1, "look3 retake3")
	equal(t, "P", w.Machine(1).P, -1)
	goes(t, w, 1, "retake")
	equal(t, "P", w.Machine(1).P, 1)
	goes(t, w, 1, "spinback")
	equal(t, "spinning", w.Spinning(), 0)
	goes(t, w, 1, "global")
	equal(t, "spinning", w.Spinning(), 1)
	equal(t, "Spin", w.Machine(1).Spin, true)
	goes(t, w, 0, "exec")
	goes(t, w, 1, "global3 steal4 unspin load claim find5 dispatch exec")
	ends(t, w, "→2m1p1")
}

func TestLookAtTheQueueAndNothingToRetake(t *testing.T) {
	w := spawned(t)
	act(t, w, 0, world.Block, 0, 0)
	goes(t, w, 0, "local4 dispatch exec")
	goes(t, w, 1, "global4 steal4 release4 drop look8 lookglobal")
	act(t, w, 0, world.Yield, 0, 0)
	goes(t, w, 0, "putone3 load claim find4")
	if w.Idle().Pending() != 1 || w.Idle().HasP(1) || w.Machine(0).Target != -1 {
		t.Error("processor 1 isn't pending")
	}
	goes(t, w, 0, "sched")
	equal(t, "spinning", w.Spinning(), 1)
	goes(t, w, 1, "lookglobal3 retake4 stop4 global")
	if m := w.Machine(1); m.P != 1 || !m.Spin || w.Idle().Pending() != 0 || w.Spinning() != 1 {
		t.Error(m)
	}
	if _, is := w.Idle().TakeM(); is {
		t.Error("it stops, though it has a processor")
	}
	goes(t, w, 1, "global3 unspin load claim find5 dispatch exec")
	ends(t, w, "↺1m0p0 →1m1p1")
}

func TestStopWithoutThePoller(t *testing.T) {
	w := of(t, 2, 3, 2)
	goes(t, w, 0, started)
	act(t, w, 0, world.Spawn, 1, 0)
	goes(t, w, 0, "putnext3 load claim find4 wake exec")
	goes(t, w, 2, "global4 steal4 unspin load claim find5 dispatch exec")
	act(t, w, 2, world.Exit, 0, 0)
	goes(t, w, 2, "local4 global4 spinup steal4 release4 drop look8 lookglobal4 stop4 sleep")
	if i, _ := w.Idle().Poller(); i != 1 || w.Idle().CountM() != 1 || !w.Asleep(2) {
		t.Error("the poller", i)
	}
}

func TestClaimedByAnotherOne(t *testing.T) {
	w := spawned(t)
	goes(t, w, 1, "global4 steal4 unspin load claim find5 dispatch exec")
	for i := range 2 {
		act(t, w, i, world.Spawn, 2+i, 0)
		goes(t, w, i, "putnext3 load claim")
	}
	goes(t, w, 0, "find")
	goes(t, w, 1, "exec")
	equal(t, "spinning", w.Spinning(), 1)
	goes(t, w, 0, "find4 exec")
	equal(t, "spinning", w.Spinning(), 0)
}

func TestCheckAndUnpoll(t *testing.T) {
	w := alone(t, 1)
	act(t, w, 0, world.Sleep, 0, 5)
	goes(t, w, 0, "park4 sched local4 global4 spinup release4 drop look4 lookglobal4 stop")
	w.Step(world.Step{Kind: world.Tick, D: 5})
	equal(t, "its note", w.Memory().Load(7), 0)
	goes(t, w, 0, "stop3 check4 unpoll3")
	_, is := w.Idle().Poller()
	equal(t, "a poller", is, true)
	goes(t, w, 0, "unpoll")
	_, is = w.Idle().Poller()
	equal(t, "a poller", is, false)
	goes(t, w, 0, "deliver4 mark putone4 load claim find4 deliver4 stop4 global4 unspin")

	w = alone(t, 1)
	act(t, w, 0, world.Sleep, 0, 5)
	goes(t, w, 0, "park4 sched local4 global4 spinup release4 drop look4 lookglobal4 stop4 check")
	w.Step(world.Step{Kind: world.Tick, D: 5})
	equal(t, "its note", w.Memory().Load(7), 1)
	_, is = w.Idle().Poller()
	equal(t, "a poller", is, false)
	goes(t, w, 0, "check3 unpoll4 sleep")
	equal(t, "asleep", w.Asleep(0), false)
	goes(t, w, 0, "deliver4 mark")
	equal(t, "its note", w.Memory().Load(7), 0)
}

func TestNobodyToTell(t *testing.T) {
	w := alone(t, 2)
	act(t, w, 0, world.Spawn, 1, 0)
	to(t, w, 0, "exec")
	act(t, w, 0, world.Wait, 4, 0)
	to(t, w, 0, "exec")
	words := w.Memory()
	w.Step(world.Step{Kind: world.Ready, A: 4})
	if !w.Memory().Same(words) || !w.Source().Due() || !w.Quiet() {
		t.Error("somebody is told")
	}
	act(t, w, 0, world.Sleep, 0, 9)
	goes(t, w, 0, "park4 deliver4 mark putone4 load claim find5 deliver4 sched "+started)
	equal(t, "who runs", w.Machine(0).G, 0)
}

func TestToldOnlyOnce(t *testing.T) {
	w := three(t)
	w.Step(world.Step{Kind: world.Tick, D: 5})
	goes(t, w, 0, "deliver")
	w.Step(world.Step{Kind: world.Tick, D: 1})
	equal(t, "its note", w.Memory().Load(7), 0)
}

func TestLocksAreServedInOrder(t *testing.T) {
	w := spawned(t)
	// Machine 1 has a ticket of the scheduler's lock first, then machine 0.
	goes(t, w, 1, "global2")
	act(t, w, 0, world.Yield, 0, 0)
	goes(t, w, 0, "putone")
	for range 5 {
		if !pick(w, 0, world.Run, 0, 0) || w.Machine(0).Section.Stage != section.Wait {
			t.Fatal("machine 0 doesn't wait, or that doesn't count")
		}
	}
	equal(t, "Next", w.Memory().Load(0), w.Memory().Load(1)+2)
	goes(t, w, 1, "global2 steal")
	goes(t, w, 0, "putone2 load")
	equal(t, "Next", w.Memory().Load(0), w.Memory().Load(1))
}

func TestWordsOfLocks(t *testing.T) {
	// A world's machine 0 takes the locks of the ring 0, and the scheduler's.
	w := of(t, 3, 3, 1)
	words := func() string {
		var l []string
		m := w.Memory()
		for i := range 10 {
			l = append(l, strconv.FormatUint(m.Load(i), 10))
		}
		return strings.Join(l, "")
	}
	goes(t, w, 0, "local2")
	equal(t, "words", words(), "0010000000")
	goes(t, w, 0, "local2 global")
	equal(t, "words", words(), "0011000000")
	goes(t, w, 0, "global")
	equal(t, "words", words(), "1011000000")
	goes(t, w, 0, "global2 dispatch")
	equal(t, "words", words(), "1111000000")
	goes(t, w, 0, "exec")
	act(t, w, 0, world.Sleep, 0, 1)
	goes(t, w, 0, "park")
	equal(t, "words", words(), "1111000010")
	goes(t, w, 0, "park3 sched local4 global4 spinup steal4")
	equal(t, "words", words(), "2222100011")
	goes(t, w, 0, "steal")
	equal(t, "words", words(), "2222110011")
}

func TestAsksOfWhatThereIsNot(t *testing.T) {
	w := of(t, 2, 2, 2)
	for _, i := range []int{-1, 2, math.MinInt, math.MaxInt} {
		m := w.Machine(i)
		if m.Place != mach.Sleep || m.P != -1 || m.G != -1 || m.Next != -1 || m.Got != -1 || m.Target != -1 {
			t.Errorf("machine %d: %v", i, m)
		}
		if w.Asleep(i) || w.Status(i) != status.None || len(w.Ring(i)) != 0 || w.Turns(i) != 0 {
			t.Errorf("%d is there", i)
		}
	}
}

func TestToAskIsNoAccess(t *testing.T) {
	w := spawned(t)
	was := w.Memory().Count()
	w.Config()
	for i := range 3 {
		w.Machine(i)
		w.Asleep(i)
		w.Status(i)
		w.Ring(i)
		w.Turns(i)
	}
	w.Quiet()
	w.Spinning()
	w.Global()
	w.Idle()
	w.Source()
	w.Events()
	equal(t, "accesses", w.Memory().Count(), was)
}

func TestAnswersAreNew(t *testing.T) {
	w := of(t, 2, 2, 9)
	goes(t, w, 0, started)
	for g := 1; g < 9; g++ {
		act(t, w, 0, world.Spawn, g, 0)
		to(t, w, 0, "exec")
	}
	to(t, w, 1, "putrest")
	w.Machine(1).Rest[0] = 99
	w.Ring(0)[0] = 99
	w.Events()[0].G = 99
	w.Memory().Store(0, 99)
	w.Idle().PutP(1)
	w.Source().Tick(5)
	if w.Machine(1).Rest[0] != 2 || w.Ring(0)[0] != 5 || w.Events()[0].G != 0 || w.Memory().Load(0) == 99 || w.Idle().HasP(1) || w.Source().Now() != 0 {
		t.Error("an answer is its own")
	}
	act(t, w, 0, world.Yield, 0, 0)
	to(t, w, 0, "load")
	w.Global()[0] = 99
	equal(t, "the queue's first", w.Global()[0], 0)
	steps := []world.Step{{A: 1}, {A: 0, Act: world.Yield}}
	kept := slices.Clone(steps)
	w.Run(steps)
	if !slices.Equal(steps, kept) {
		t.Error("what is handed in is changed")
	}
}

// random is steps of a world, that follow from a seed.
func random(c world.Config, seed uint64, n int) []world.Step {
	x := seed*2862933555777941757 + 3037000493
	next := func(n int) int {
		x = x*6364136223846793005 + 1442695040888963407
		return int(x>>33) % n
	}
	acts := next(100)
	var l []world.Step
	for range n {
		s := world.Step{A: next(c.M)}
		switch k := next(40); {
		case k == 0:
			s = world.Step{Kind: world.Tick, D: int64(next(10))}
		case k == 1:
			s = world.Step{Kind: world.Ready, A: next(8)}
		case next(100) < acts:
			s.Act, s.X, s.D = uint8(next(9)), next(c.G+1), int64(next(20)-2)
		}
		l = append(l, s)
	}
	return l
}

// configs are those of random steps.
func configs(seed uint64) world.Config {
	p := 1 + int(seed%4)
	return world.Config{P: p, M: p + int(seed/4%4), G: 1 + int(seed*7%23)}
}

// whole checks that nothing is lost, or there twice, and what holds of all
// worlds.
func whole(t *testing.T, w *world.World) {
	t.Helper()
	c, idle := w.Config(), w.Idle()
	goroutines, processors := map[int]int{}, map[int]int{}
	for _, g := range w.Global() {
		goroutines[g]++
	}
	for p := range c.P {
		for _, g := range w.Ring(p) {
			goroutines[g]++
		}
		if idle.HasP(p) {
			processors[p]++
		}
	}
	for p, is := idle.TakePending(); is; p, is = idle.TakePending() {
		processors[p]++
	}
	holds := map[int]int{}
	for i := range c.M {
		m := w.Machine(i)
		for _, g := range append(m.Rest, m.Got, m.G) {
			goroutines[g]++
		}
		processors[m.P]++
		processors[m.Next]++
		if m.G >= 0 && w.Status(m.G) != status.Running {
			t.Fatalf("machine %d runs %d, which is %s", i, m.G, status.Name(w.Status(m.G)))
		}
		if m.In && m.Section.Holds() {
			holds[m.Section.Lock.Next]++
		}
	}
	for g := range c.G {
		s := w.Status(g)
		want := 0
		if s == status.Runnable || s == status.Running {
			want = 1
		}
		if n := goroutines[g]; n != want && !(n == 1 && (s == status.Sleeping || s == status.Waiting) && !w.Source().Out(g)) {
			t.Fatalf("goroutine %d, which is %s, is there %d times", g, status.Name(s), n)
		}
	}
	for p := range c.P {
		if processors[p] != 1 {
			t.Fatalf("processor %d is there %d times", p, processors[p])
		}
	}
	for k, n := range holds {
		if n > 1 {
			t.Fatalf("%d hold the lock of the word %d", n, k)
		}
	}
	stopped(t, w)
	told(t, w)
}

// stopped checks that just those are idle, or the poller, that have nothing in
// hand, and that who runs a goroutine, or sleeps, has nothing beside.
func stopped(t *testing.T, w *world.World) {
	t.Helper()
	idle, is := w.Idle(), map[int]bool{}
	for i, ok := idle.TakeM(); ok; i, ok = idle.TakeM() {
		is[i] = true
	}
	for i := range w.Config().M {
		m := w.Machine(i)
		holds := m.P >= 0 || m.G >= 0 || m.Next >= 0 || m.Got >= 0 || m.Target >= 0 || m.Spin || len(m.Rest) > 0
		switch {
		case is[i] && (holds || m.Place != mach.Sleep && m.Place != mach.Stop && m.Place != mach.Check && m.Place != mach.Unpoll):
			t.Fatalf("machine %d is idle: %v", i, m)
		case w.Asleep(i) && !is[i] && m.Next < 0:
			t.Fatalf("machine %d is asleep, and not idle: %v", i, m)
		case m.Place == mach.Exec && (m.P < 0 || m.G < 0 || m.Got >= 0 || m.Target >= 0 || m.Spin || len(m.Rest) > 0):
			t.Fatalf("machine %d runs: %v", i, m)
		case m.Place == mach.Sleep && (m.P >= 0 || m.G >= 0 || m.Got >= 0 || m.Target >= 0 || m.Spin || len(m.Rest) > 0):
			t.Fatalf("machine %d sleeps: %v", i, m)
		}
	}
}

// told checks that what is asked is what the words are.
func told(t *testing.T, w *world.World) {
	t.Helper()
	c, words := w.Config(), w.Memory()
	at := 2 * (c.P + 2)
	equal(t, "spinning", w.Spinning(), words.Load(at))
	quiet := true
	for i := range c.M {
		place := w.Machine(i).Place
		asleep := place == mach.Sleep && words.Load(at+1+i) == 0
		equal(t, "asleep", w.Asleep(i), asleep)
		quiet = quiet && (asleep || place == mach.Exec)
	}
	equal(t, "quiet", w.Quiet(), quiet)
	for g := range c.G {
		equal(t, "a status", w.Status(g), status.Status(words.Load(at+1+c.M+g)))
	}
}

func TestWhateverTheStepsAre(t *testing.T) {
	for seed := range uint64(160) {
		c := configs(seed)
		w := of(t, c.P, c.M, c.G)
		for i, s := range random(c, seed, 600) {
			was, events := w.Memory().Count(), len(w.Events())
			stage := w.Machine(s.A).Section.Stage
			asleep := s.Kind == world.Pick && w.Asleep(s.A)
			happened := w.Step(s)
			accesses := w.Memory().Count() - was
			if accesses > 2 || accesses == 2 && (s.Kind != world.Pick || stage != section.Free) {
				t.Fatalf("seed %d, step %d: %d accesses", seed, i, accesses)
			}
			if asleep && happened || len(w.Events()) > events+1 || len(w.Events()) < events {
				t.Fatalf("seed %d, step %d: %v", seed, i, s)
			}
			whole(t, w)
		}
		if f := model.Check(c.P, c.M, c.G, w.Events()); len(f) > 0 {
			t.Fatalf("seed %d: %v", seed, f)
		}
	}
}

func TestWhatAWorldDoesHangsOnItsStepsAlone(t *testing.T) {
	for seed := range uint64(20) {
		c := configs(seed)
		a, b := of(t, c.P, c.M, c.G), of(t, c.P, c.M, c.G)
		l := random(c, seed, 1500)
		n := a.Run(l)
		for _, s := range l {
			b.Memory()
			b.Quiet()
			if b.Step(s) {
				n--
			}
		}
		if n != 0 || !a.Memory().Same(b.Memory()) || a.Memory().Count() != b.Memory().Count() || !slices.Equal(a.Events(), b.Events()) {
			t.Fatalf("seed %d: they are unlike", seed)
		}
	}
}

// The types of what is asked.
var (
	_ func(*world.World) *cell.Memory   = (*world.World).Memory
	_ func(*world.World) *source.Source = (*world.World).Source
	_ func(*world.World) []event.Event  = (*world.World).Events
)
