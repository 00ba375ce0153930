package event_test

import (
	"math"
	"slices"
	"testing"

	"hostler/event"
	"hostler/status"
)

// names are all kinds' names, by their numbers.
var names = []string{"spawn", "ready", "dispatch", "yield", "block", "sleep", "wait", "exit"}

// noKinds are numbers of no kind.
var noKinds = []event.Kind{-1, 8, 9, math.MinInt, math.MaxInt}

func TestNumbersAndNames(t *testing.T) {
	for i, k := range []event.Kind{event.Spawn, event.Ready, event.Dispatch, event.Yield, event.Block, event.Sleep, event.Wait, event.Exit} {
		if int(k) != i || event.Name(k) != names[i] {
			t.Errorf("%d: %d, %q", i, k, event.Name(k))
		}
	}
	for _, k := range noKinds {
		if event.Name(k) != "" {
			t.Errorf("Name(%d): %q", k, event.Name(k))
		}
	}
}

func TestRight(t *testing.T) {
	fields := []struct {
		name string
		of   func(n int) event.Event
		ok   []int
		not  []int
	}{
		{"Kind", func(n int) event.Event { return event.Event{Kind: event.Kind(n)} }, []int{0, 1, 2, 3, 4, 5, 6, 7}, []int{-1, 8, 9, math.MinInt, math.MaxInt}},
		{"G", func(n int) event.Event { return event.Event{G: n} }, []int{0, 1, 4095}, []int{-1, 4096, math.MinInt, math.MaxInt}},
		{"M", func(n int) event.Event { return event.Event{M: n} }, []int{-1, 0, 127}, []int{-2, 128, math.MinInt, math.MaxInt}},
		{"P", func(n int) event.Event { return event.Event{P: n} }, []int{-1, 0, 63}, []int{-2, 64, math.MinInt, math.MaxInt}},
	}
	for _, f := range fields {
		for _, n := range f.ok {
			if !event.Right(f.of(n)) {
				t.Errorf("%s %d isn't right", f.name, n)
			}
		}
		for _, n := range f.not {
			if event.Right(f.of(n)) {
				t.Errorf("%s %d is right", f.name, n)
			}
		}
	}
}

func TestRightValues(t *testing.T) {
	for k := range event.Kind(8) {
		for _, v := range []int64{0, 1, -1, 65535, 65536, math.MinInt64, math.MaxInt64} {
			want := v == 0 || k == event.Sleep || k == event.Wait && v > 0 && v < 65536
			if got := event.Right(event.Event{Kind: k, G: 3, M: 1, P: 2, Value: v}); got != want {
				t.Errorf("%s with %d: %v", event.Name(k), v, got)
			}
		}
	}
}

func TestSteps(t *testing.T) {
	want := [][2]status.Status{
		{status.None, status.Runnable}, {status.None, status.Runnable}, {status.Runnable, status.Running},
		{status.Running, status.Runnable}, {status.Running, status.Blocked}, {status.Running, status.Sleeping},
		{status.Running, status.Waiting}, {status.Running, status.Dead},
	}
	for k, w := range want {
		for _, e := range []event.Event{{Kind: event.Kind(k)}, {Kind: event.Kind(k), G: -9, M: 500, P: 3, Value: 7}} {
			if from, to, ok := event.Steps(e); from != w[0] || to != w[1] || !ok {
				t.Errorf("Steps of %v: %d, %d, %v", e, from, to, ok)
			}
		}
		if from, to, _ := event.Steps(event.Event{Kind: event.Kind(k)}); k != int(event.Ready) && !status.Legal(from, to) {
			t.Errorf("the step of %d isn't legal", k)
		}
	}
	for _, k := range noKinds {
		if from, to, ok := event.Steps(event.Event{Kind: k}); from != 0 || to != 0 || ok {
			t.Errorf("Steps of %d: %d, %d, %v", k, from, to, ok)
		}
	}
}

// some is a log, and what was added to it.
func some() (*event.Log, []event.Event) {
	var l event.Log
	events := []event.Event{
		{Kind: event.Spawn, G: 0, M: -1, P: -1},
		{Kind: event.Dispatch, G: 0},
		{Kind: event.Spawn, G: 2},
		{Kind: event.Sleep, G: 0, Value: -5},
		{Kind: event.Dispatch, G: 2},
		{Kind: event.Ready, G: 0, M: 3, P: -1},
	}
	for _, e := range events {
		l.Add(e)
	}
	return &l, events
}

func TestTheZeroLogHasNone(t *testing.T) {
	var l event.Log
	if l.Len() != 0 || len(l.From(0)) != 0 || len(l.From(-3)) != 0 || len(l.From(5)) != 0 || len(l.Of(0)) != 0 || l.Count(event.Spawn) != 0 {
		t.Error("it has some")
	}
	for i, e := range l.All() {
		t.Error(i, e)
	}
}

func TestAddOnlyWhatMayBe(t *testing.T) {
	var l event.Log
	good := event.Event{Kind: event.Wait, G: 4095, M: 127, P: 63, Value: 65535}
	for range 2 {
		if !l.Add(good) {
			t.Error("it isn't added")
		}
	}
	for _, e := range []event.Event{
		{Kind: 8}, {Kind: -1}, {G: -1}, {G: 4096}, {M: -2}, {M: 128}, {P: -2}, {P: 64}, {Value: 1},
		{Kind: event.Exit, Value: -1}, {Kind: event.Wait, Value: -1}, {Kind: event.Wait, Value: 65536},
	} {
		if l.Add(e) {
			t.Errorf("%v is added", e)
		}
	}
	if l.Len() != 2 || !slices.Equal(l.From(0), []event.Event{good, good}) {
		t.Error(l.From(0))
	}
}

func TestAll(t *testing.T) {
	l, want := some()
	n := 0
	for i, e := range l.All() {
		if i != n || e != want[i] {
			t.Error(i, e)
		}
		n++
	}
	if n != len(want) {
		t.Error(n)
	}
	n = 0
	for i := range l.All() {
		n++
		if i == 2 {
			break
		}
	}
	if n != 3 {
		t.Error("it goes on behind a break", n)
	}
	all := l.All()
	l.Add(event.Event{Kind: event.Exit, G: 2})
	n = 0
	for i, e := range all {
		n++
		if i == len(want) && e.Kind != event.Exit {
			t.Error(e)
		}
	}
	if n != len(want)+1 {
		t.Error("it isn't as it is when it is gone through", n)
	}
}

func TestFromOfCount(t *testing.T) {
	l, want := some()
	for _, i := range []int{math.MinInt, -1, 0, 1, 3, 5, 6, 7, math.MaxInt} {
		from := min(max(i, 0), len(want))
		if got := l.From(i); !slices.Equal(got, want[from:]) {
			t.Errorf("From(%d): %v", i, got)
		}
	}
	if got := l.Of(0); !slices.Equal(got, []event.Event{want[0], want[1], want[3], want[5]}) {
		t.Error(got)
	}
	if got := l.Of(2); !slices.Equal(got, []event.Event{want[2], want[4]}) {
		t.Error(got)
	}
	for _, g := range []int{1, -1, 4096, math.MaxInt} {
		if got := l.Of(g); len(got) != 0 {
			t.Error(g, got)
		}
	}
	for k, n := range map[event.Kind]int{event.Spawn: 2, event.Ready: 1, event.Dispatch: 2, event.Sleep: 1, event.Exit: 0, event.Yield: 0, -1: 0, 8: 0} {
		if l.Count(k) != n {
			t.Errorf("Count(%d): %d", k, l.Count(k))
		}
	}
}

func TestAnswersAreNew(t *testing.T) {
	l, want := some()
	a, b := l.From(0), l.Of(0)
	a[0].G, b[0].G = 9, 9
	a = append(a[:2], event.Event{G: 8})
	c := l.From(2)
	c[0].G = 7
	if !slices.Equal(l.From(0), want) {
		t.Error(l.From(0), a)
	}
	if want[0] != (event.Event{Kind: event.Spawn, G: 0, M: -1, P: -1, Value: 0}) {
		t.Error("events aren't compared by ==")
	}
}
