package model_test

import (
	"math"
	"slices"
	"testing"

	"hostler/event"
	"hostler/model"
	"hostler/status"
)

func at(k event.Kind, g, m, p int) event.Event { return event.Event{Kind: k, G: g, M: m, P: p} }

func let(t *testing.T, m *model.Model, l ...event.Event) {
	t.Helper()
	for _, e := range l {
		if wrong, ok := m.Add(e); wrong != 0 || !ok {
			t.Errorf("%v isn't let: %d, %v", e, wrong, ok)
		}
	}
}

// wrong checks that an event isn't let, and that nothing happens by it.
func wrong(t *testing.T, m *model.Model, want uint8, l ...event.Event) {
	t.Helper()
	for _, e := range l {
		was, running, runnable := m.Status(e.G), m.Running(), m.Runnable()
		g, p, is := m.Runs(e.M)
		if got, ok := m.Add(e); got != want || ok {
			t.Errorf("%v: %d, %v, want %d", e, got, ok, want)
		}
		g2, p2, is2 := m.Runs(e.M)
		if m.Status(e.G) != was || m.Running() != running || !slices.Equal(m.Runnable(), runnable) || g != g2 || p != p2 || is != is2 {
			t.Errorf("%v: something happened", e)
		}
	}
}

func TestNumbers(t *testing.T) {
	if model.Shape != 0 || model.Step != 1 || model.Twice != 2 || model.Off != 3 {
		t.Error("the numbers of what is wrong")
	}
}

func TestExample(t *testing.T) {
	l := []event.Event{at(event.Spawn, 0, -1, -1), at(event.Dispatch, 0, 0, 0), at(event.Dispatch, 0, 0, 0)}
	if got := model.Check(1, 1, 1, l); !slices.Equal(got, []model.Finding{{Kind: model.Step, At: 2}}) {
		t.Error(got)
	}
}

func TestShape(t *testing.T) {
	m := model.New(2, 3, 4)
	wrong(t, m, model.Shape,
		at(event.Spawn, 4, 0, 0), at(event.Spawn, -1, 0, 0), at(event.Spawn, 0, 3, 0), at(event.Spawn, 0, -2, 0),
		at(event.Spawn, 0, 0, 2), at(event.Spawn, 0, 0, -2), at(-1, 0, 0, 0), at(8, 0, 0, 0),
		event.Event{Kind: event.Spawn, Value: 1}, event.Event{Kind: event.Wait, Value: -1})
	for k := event.Dispatch; k <= event.Exit; k++ {
		wrong(t, m, model.Shape, at(k, 0, -1, 0), at(k, 0, 0, -1), at(k, 0, -1, -1))
	}
	wrong(t, m, model.Step, at(event.Ready, 0, -1, -1))
	let(t, m, at(event.Spawn, 0, -1, -1), at(event.Spawn, 1, 2, -1), at(event.Spawn, 2, -1, 1), at(event.Spawn, 3, 2, 1))
}

func TestNewOfNone(t *testing.T) {
	e := at(event.Spawn, 0, 0, 0)
	for _, c := range [][3]int{{0, 1, 1}, {1, 0, 1}, {1, 1, 0}, {-1, 1, 1}, {1, -1, 1}, {1, 1, -1}, {math.MinInt, math.MinInt, math.MinInt}} {
		wrong(t, model.New(c[0], c[1], c[2]), model.Shape, e)
	}
	let(t, model.New(0, 0, 1), at(event.Spawn, 0, -1, -1))
	let(t, model.New(-5, math.MinInt, 1), at(event.Spawn, 0, -1, -1))
	big := model.New(math.MaxInt, math.MaxInt, math.MaxInt)
	let(t, big, at(event.Spawn, 4095, 127, 63), at(event.Dispatch, 4095, 127, 63))
	wrong(t, big, model.Shape, at(event.Spawn, 4096, 0, 0), at(event.Spawn, 0, 128, 0), at(event.Spawn, 0, 0, 64))
}

// become is a model of 3, 3, 3 whose goroutine 0 has a status; it ran on machine 1, processor 2.
func become(t *testing.T, s status.Status) *model.Model {
	m := model.New(3, 3, 3)
	if s != status.None {
		let(t, m, at(event.Spawn, 0, -1, -1))
	}
	if s > status.Runnable {
		let(t, m, at(event.Dispatch, 0, 1, 2))
	}
	last := map[status.Status]event.Kind{status.Blocked: event.Block, status.Sleeping: event.Sleep, status.Waiting: event.Wait, status.Dead: event.Exit}
	if k, ok := last[s]; ok {
		let(t, m, at(k, 0, 1, 2))
	}
	if m.Status(0) != s {
		t.Fatal(m.Status(0), s)
	}
	return m
}

func TestStepsOfAllStatuses(t *testing.T) {
	to := []status.Status{status.Runnable, status.Runnable, status.Running, status.Runnable, status.Blocked, status.Sleeping, status.Waiting, status.Dead}
	for s := status.None; s <= status.Dead; s++ {
		for k := event.Spawn; k <= event.Exit; k++ {
			m, e := become(t, s), at(k, 0, 1, 2)
			may := false
			switch k {
			case event.Spawn:
				may = s == status.None
			case event.Ready:
				may = s == status.Blocked || s == status.Sleeping || s == status.Waiting
			case event.Dispatch:
				may = s == status.Runnable
			default:
				may = s == status.Running
			}
			if !may {
				wrong(t, m, model.Step, e)
				continue
			}
			let(t, m, e)
			if m.Status(0) != to[k] {
				t.Errorf("behind %v: %d", e, m.Status(0))
			}
			g, p, is := m.Runs(1)
			if runs := k == event.Dispatch; is != runs || runs && (g != 0 || p != 2) || !runs && (g != 0 || p != 0 || m.Running() != 0) {
				t.Errorf("behind %v machine 1 runs %d on %d, %v", e, g, p, is)
			}
		}
	}
}

func TestTwice(t *testing.T) {
	m := model.New(3, 3, 4)
	for g := range 4 {
		let(t, m, at(event.Spawn, g, -1, -1))
	}
	let(t, m, at(event.Dispatch, 0, 1, 2))
	wrong(t, m, model.Twice, at(event.Dispatch, 1, 1, 0), at(event.Dispatch, 1, 0, 2), at(event.Dispatch, 1, 1, 2))
	wrong(t, m, model.Step, at(event.Dispatch, 0, 2, 0))
	let(t, m, at(event.Dispatch, 1, 2, 0), at(event.Dispatch, 3, 0, 1))
	if m.Running() != 3 || !slices.Equal(m.Runnable(), []int{2}) {
		t.Error(m.Running(), m.Runnable())
	}
	wrong(t, m, model.Twice, at(event.Dispatch, 2, 0, 0), at(event.Dispatch, 2, 1, 1))
	let(t, m, at(event.Yield, 1, 2, 0), at(event.Dispatch, 2, 2, 0))
	if g, p, is := m.Runs(2); g != 2 || p != 0 || !is {
		t.Error(g, p, is)
	}
}

func TestOff(t *testing.T) {
	m := model.New(3, 3, 3)
	for g := range 2 {
		let(t, m, at(event.Spawn, g, 0, 0), at(event.Dispatch, g, g, 2-g))
	}
	for _, k := range []event.Kind{event.Yield, event.Block, event.Sleep, event.Wait, event.Exit} {
		wrong(t, m, model.Off, at(k, 0, 0, 1), at(k, 0, 1, 2), at(k, 0, 2, 2), at(k, 1, 0, 2), at(k, 1, 1, 2), at(k, 0, 0, 0))
		wrong(t, m, model.Step, at(k, 2, 0, 2))
		let(t, m, at(k, 0, 0, 2))
		if _, _, is := m.Runs(0); is || m.Running() != 1 {
			t.Error("it still runs")
		}
		if k != event.Exit {
			if k != event.Yield {
				let(t, m, at(event.Ready, 0, -1, -1))
			}
			let(t, m, at(event.Dispatch, 0, 0, 2))
		}
	}
}

func TestAsksOfWhatThereIsNot(t *testing.T) {
	m := model.New(1, 1, 1)
	let(t, m, at(event.Spawn, 0, 0, 0), at(event.Dispatch, 0, 0, 0))
	for _, i := range []int{-1, 1, math.MinInt, math.MaxInt} {
		if g, p, is := m.Runs(i); g != 0 || p != 0 || is || m.Status(i) != status.None {
			t.Errorf("%d is there", i)
		}
	}
}

func TestRunnableRises(t *testing.T) {
	m := model.New(1, 1, 50)
	var want []int
	for i := range 50 {
		g := i * 17 % 50
		let(t, m, at(event.Spawn, g, -1, -1))
		want = append(want, g)
	}
	slices.Sort(want)
	l := m.Runnable()
	if !slices.Equal(l, want) {
		t.Error(l)
	}
	l[0] = 99
	let(t, m, at(event.Dispatch, 7, 0, 0))
	want = slices.Delete(want, 7, 8)
	if !slices.Equal(m.Runnable(), want) {
		t.Error(m.Runnable())
	}
	if len(model.New(1, 1, 1).Runnable()) != 0 {
		t.Error("runnable at first")
	}
}

func TestCheckFindsAll(t *testing.T) {
	l := []event.Event{
		at(event.Dispatch, 0, 0, 0), at(event.Spawn, 0, -1, -1), at(event.Spawn, 1, 0, 0), at(event.Dispatch, 0, 0, 0),
		at(event.Dispatch, 1, 0, 1), at(event.Spawn, 2, 9, 0), at(event.Yield, 0, 0, 1), at(event.Yield, 0, 0, 0),
		at(event.Spawn, 0, -1, -1), at(event.Dispatch, 1, 0, 1),
	}
	want := []model.Finding{
		{Kind: model.Step, At: 0}, {Kind: model.Twice, At: 4}, {Kind: model.Shape, At: 5}, {Kind: model.Off, At: 6}, {Kind: model.Step, At: 8},
	}
	kept := slices.Clone(l)
	if got := model.Check(2, 2, 3, l); !slices.Equal(got, want) {
		t.Error(got)
	}
	if !slices.Equal(l, kept) {
		t.Error("what was handed in is changed")
	}
	if got := model.Check(0, 0, 0, nil); len(got) != 0 {
		t.Error(got)
	}
}

func TestWhatIsLetKeepsTheRun(t *testing.T) {
	m, x := model.New(3, 4, 6), uint32(5)
	next := func(n int) int {
		x = x*1664525 + 1013904223
		return int(x>>16) % n
	}
	lets := 0
	for range 60000 {
		before := map[int]status.Status{}
		for g := range 6 {
			before[g] = m.Status(g)
		}
		e := at(event.Kind(next(8)), next(7), next(5)-1, next(4)-1)
		if e.Kind == event.Exit && next(200) != 0 {
			continue
		}
		_, ok := m.Add(e)
		if ok {
			lets++
		}
		seen, places := map[int]bool{}, map[int]bool{}
		for machine := range 4 {
			if g, p, is := m.Runs(machine); is {
				if seen[g] || places[p] || m.Status(g) != status.Running {
					t.Fatal("runs twice", g, p)
				}
				seen[g], places[p] = true, true
			}
		}
		if len(seen) != m.Running() || m.Running() > 3 {
			t.Fatal("Running", m.Running())
		}
		for g := range 6 {
			changed := before[g] != m.Status(g)
			if changed && (!ok || g != e.G) || before[g] == status.Dead && changed || (m.Status(g) == status.Running) != seen[g] {
				t.Fatal(e, g, before[g], m.Status(g))
			}
		}
	}
	if lets < 500 {
		t.Error("few were let:", lets)
	}
}
