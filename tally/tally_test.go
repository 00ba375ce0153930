package tally_test

import (
	"maps"
	"math"
	"slices"
	"testing"

	"hostler/event"
	"hostler/script"
	"hostler/tally"
)

func at(k event.Kind, g int) event.Event { return event.Event{Kind: k, G: g} }

func on(p, g int) event.Event { return event.Event{Kind: event.Dispatch, G: g, P: p} }

// some is events of 3, -2, 7, of which some have no kind.
var some = []event.Event{
	at(event.Spawn, 3), at(event.Spawn, 7), at(event.Dispatch, 3), at(9, 7), at(event.Yield, 3), at(event.Dispatch, -2), at(event.Dispatch, 3),
	at(event.Exit, 3), at(-1, 5), at(event.Ready, -2), at(event.Ready, -2), at(8, -2),
}

func TestExample(t *testing.T) {
	l := []event.Event{at(event.Spawn, 0), at(event.Spawn, 1), at(event.Dispatch, 0)}
	if n := tally.Longest(l, 0); n != 1 {
		t.Error(n)
	}
	if got := tally.Order(l); !slices.Equal(got, []int{0}) {
		t.Error(got)
	}
}

func TestOf(t *testing.T) {
	want := []tally.Row{
		{G: -2, Kinds: [8]int{event.Dispatch: 1, event.Ready: 2}, Last: 11},
		{G: 3, Kinds: [8]int{event.Spawn: 1, event.Dispatch: 2, event.Yield: 1, event.Exit: 1}, Last: 7},
		{G: 5, Last: 8},
		{G: 7, Kinds: [8]int{event.Spawn: 1}, Last: 3},
	}
	for _, w := range want {
		if got, ok := tally.Of(some, w.G); got != w || !ok {
			t.Errorf("Of %d: %v, %v, want %v", w.G, got, ok, w)
		}
	}
	for _, g := range []int{0, -1, 4, math.MinInt, math.MaxInt} {
		if got, ok := tally.Of(some, g); got != (tally.Row{}) || ok {
			t.Errorf("Of %d: %v, %v", g, got, ok)
		}
	}
	if got, ok := tally.Of(nil, 0); got != (tally.Row{}) || ok {
		t.Error(got, ok)
	}
	if got := tally.All(some); !slices.Equal(got, want) {
		t.Error(got)
	}
	if got := tally.All(nil); len(got) != 0 {
		t.Error(got)
	}
}

func TestEachKindIsCounted(t *testing.T) {
	var l []event.Event
	for k := event.Spawn; k <= event.Exit; k++ {
		for range k + 1 {
			l = append(l, at(k, 4))
		}
	}
	l = append(l, at(math.MaxInt, 4), at(math.MinInt, 4))
	if got, _ := tally.Of(l, 4); got != (tally.Row{G: 4, Kinds: [8]int{1, 2, 3, 4, 5, 6, 7, 8}, Last: len(l) - 1}) {
		t.Error(got)
	}
}

func TestLongest(t *testing.T) {
	x, y := at(event.Block, 1), at(77, 2)
	for _, c := range []struct {
		name string
		l    []event.Event
		want int
	}{
		{"none", nil, 0},
		{"one that doesn't end", []event.Event{at(event.Spawn, 0), x, x, x}, 0},
		{"a Spawn", []event.Event{at(event.Spawn, 0), x, y, x, at(event.Dispatch, 0)}, 3},
		{"a Ready", []event.Event{at(event.Ready, 0), x, y, at(event.Dispatch, 0)}, 2},
		{"a Yield", []event.Event{x, at(event.Yield, 0), x, at(event.Dispatch, 0), x, x}, 1},
		{"no waits", []event.Event{
			at(event.Dispatch, 0), x, at(event.Block, 0), x, at(event.Sleep, 0), x, at(event.Wait, 0), x, at(event.Exit, 0), x, at(9, 0), x, at(-1, 0), x, at(event.Spawn, 0),
		}, 0},
		{"at once", []event.Event{at(event.Spawn, 0), at(event.Dispatch, 0), x, x}, 0},
		{"the longest one in the middle", []event.Event{
			at(event.Spawn, 0), x, at(event.Dispatch, 0), at(event.Yield, 0), x, x, x, at(event.Dispatch, 0), at(event.Yield, 0), x, x, at(event.Dispatch, 0),
		}, 3},
		{"the last one doesn't end", []event.Event{at(event.Spawn, 0), x, at(event.Dispatch, 0), at(event.Yield, 0), x, x, x}, 1},
		{"ends by an event that begins one", []event.Event{at(event.Spawn, 0), x, x, at(event.Yield, 0), x, x, x, at(event.Ready, 0), x}, 3},
		{"ends by one of no kind", []event.Event{at(event.Spawn, 0), x, x, at(9, 0), x, x, x, at(event.Dispatch, 0)}, 2},
	} {
		if got := tally.Longest(c.l, 0); got != c.want {
			t.Errorf("%s: %d, want %d", c.name, got, c.want)
		}
	}
	if tally.Longest(some, 3) != 1 || tally.Longest(some, 7) != 1 || tally.Longest(some, -2) != 0 || tally.Longest(some, 99) != 0 {
		t.Error("of some")
	}
}

func TestOrderAndShares(t *testing.T) {
	l := []event.Event{on(2, 5), at(event.Spawn, 9), on(0, 3), on(2, 5), on(-1, -7), at(event.Exit, 5), at(9, 5), on(2, 0)}
	if got := tally.Order(l); !slices.Equal(got, []int{5, 3, 5, -7, 0}) {
		t.Error(got)
	}
	if got := tally.Shares(l); !maps.Equal(got, map[int]int{2: 3, 0: 1, -1: 1}) {
		t.Error(got)
	}
	if len(tally.Order(nil)) != 0 || len(tally.Shares(nil)) != 0 || len(tally.Shares(l[1:2])) != 0 {
		t.Error("of none")
	}
}

func TestNothingIsChanged(t *testing.T) {
	kept := slices.Clone(some)
	tally.All(some)[0].G = 99
	tally.Order(some)[0] = 99
	tally.Shares(some)[0] = 99
	tally.Of(some, 3)
	tally.Longest(some, 3)
	if !slices.Equal(some, kept) || tally.All(some)[0].G != -2 || tally.Order(some)[0] != 3 || tally.Shares(some)[0] != 3 {
		t.Error(some)
	}
}

func TestAWorldsEvents(t *testing.T) {
	x, rows := uint64(9), 0
	for range 300 {
		b := make([]byte, 900)
		for i := range b {
			x = x*6364136223846793005 + 1442695040888963407
			b[i] = byte(x >> 33)
		}
		l := script.Run(b).Events()
		all := tally.All(l)
		dispatches := 0
		for i, r := range all {
			of, ok := tally.Of(l, r.G)
			k := r.Kinds
			leaves := k[event.Yield] + k[event.Block] + k[event.Sleep] + k[event.Wait] + k[event.Exit]
			if of != r || !ok || i > 0 && all[i-1].G >= r.G || k[event.Spawn] > 1 || k[event.Dispatch] > leaves+1 || l[r.Last].G != r.G {
				t.Fatal(r, of)
			}
			dispatches += k[event.Dispatch]
			rows++
		}
		shares := 0
		for _, n := range tally.Shares(l) {
			shares += n
		}
		if len(tally.Order(l)) != dispatches || shares != dispatches {
			t.Fatal(dispatches, tally.Order(l), tally.Shares(l))
		}
	}
	if rows < 300 {
		t.Error("few rows:", rows)
	}
}
