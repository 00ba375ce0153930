package status_test

import (
	"math"
	"testing"

	"hostler/cell"
	"hostler/status"
)

const (
	none     = status.None
	runnable = status.Runnable
	running  = status.Running
	blocked  = status.Blocked
	sleeping = status.Sleeping
	waiting  = status.Waiting
	dead     = status.Dead
)

// names are all statuses' names, by their numbers.
var names = []string{"none", "runnable", "running", "blocked", "sleeping", "waiting", "dead"}

// legal are all steps that are.
var legal = map[[2]status.Status]bool{
	{none, runnable}: true, {runnable, running}: true,
	{running, runnable}: true, {running, blocked}: true, {running, sleeping}: true, {running, waiting}: true, {running, dead}: true,
	{blocked, runnable}: true, {sleeping, runnable}: true, {waiting, runnable}: true,
}

func TestNumbers(t *testing.T) {
	for i, s := range []status.Status{none, runnable, running, blocked, sleeping, waiting, dead} {
		if s != status.Status(i) {
			t.Error(i, s)
		}
	}
}

func TestExample(t *testing.T) {
	if !status.Legal(running, dead) || status.Legal(dead, runnable) {
		t.Error("the example's steps")
	}
}

func TestLegal(t *testing.T) {
	all := []status.Status{none, runnable, running, blocked, sleeping, waiting, dead, 7, 8, 63, 64, 65, 1 << 63, math.MaxUint64}
	for _, from := range all {
		for _, to := range all {
			if got := status.Legal(from, to); got != legal[[2]status.Status{from, to}] {
				t.Errorf("Legal(%d, %d): %v", from, to, got)
			}
		}
	}
}

func TestNames(t *testing.T) {
	for i, want := range names {
		if got := status.Name(status.Status(i)); got != want {
			t.Errorf("Name(%d): %q", i, got)
		}
		if s, ok := status.Named(want); s != status.Status(i) || !ok {
			t.Errorf("Named(%q): %d, %v", want, s, ok)
		}
	}
	for _, s := range []status.Status{7, 8, 1 << 32, 1 << 63, math.MaxUint64} {
		if got := status.Name(s); got != "" {
			t.Errorf("Name(%d): %q", s, got)
		}
	}
	for _, name := range []string{"", " ", "None", "DEAD", "dead ", "run", "running\x00", "\xff", "count"} {
		if s, ok := status.Named(name); s != 0 || ok {
			t.Errorf("Named(%q): %d, %v", name, s, ok)
		}
	}
}

func TestOfAndSet(t *testing.T) {
	m, table := cell.New(9), status.Table{From: 2, N: 5}
	for g := range 5 {
		if table.Of(m, g) != none {
			t.Errorf("%d at first: %d", g, table.Of(m, g))
		}
		s := status.Status(g + 2)
		if !table.Set(m, g, s) || table.Of(m, g) != s || m.Load(2+g) != uint64(s) {
			t.Errorf("%d isn't set", g)
		}
	}
	if !table.Set(m, 4, none) || table.Of(m, 4) != none || !table.Set(m, 4, running) || table.Of(m, 4) != running {
		t.Error("set, whatever it was")
	}
	for _, i := range []int{0, 1, 7, 8} {
		if m.Load(i) != 0 {
			t.Errorf("word %d changed", i)
		}
	}
}

func TestMove(t *testing.T) {
	m, table := cell.New(8), status.Table{From: 3, N: 3}
	for from := range status.Status(7) {
		for to := range status.Status(9) {
			for is := range status.Status(7) {
				table.Set(m, 1, is)
				was := m.Count()
				want, left := legal[[2]status.Status{from, to}] && is == from, is
				if want {
					left = to
				}
				if got := table.Move(m, 1, from, to); got != want {
					t.Errorf("of %d: Move from %d to %d: %v", is, from, to, got)
				}
				accesses := 0
				if legal[[2]status.Status{from, to}] {
					accesses = 1
				}
				if m.Count()-was != accesses {
					t.Errorf("of %d: Move from %d to %d: %d accesses", is, from, to, m.Count()-was)
				}
				if table.Of(m, 1) != left {
					t.Errorf("of %d: Move from %d to %d: it is %d", is, from, to, table.Of(m, 1))
				}
			}
		}
	}
	if table.Of(m, 0) != none || table.Of(m, 2) != none || m.Load(2) != 0 || m.Load(6) != 0 {
		t.Error("another one changed")
	}
}

func TestAccesses(t *testing.T) {
	m, table := cell.New(8), status.Table{From: 3, N: 3}
	was := 0
	accesses := func(want int) {
		t.Helper()
		if m.Count()-was != want {
			t.Errorf("%d accesses, want %d", m.Count()-was, want)
		}
		was = m.Count()
	}
	table.Of(m, 2)
	accesses(1)
	table.Set(m, 2, dead)
	accesses(1)
	if table.Set(m, 2, 7) || table.Set(m, 2, math.MaxUint64) {
		t.Error("no status is set")
	}
	accesses(0)
	if table.Of(m, 2) != dead {
		t.Error("it isn't as it was")
	}
	accesses(1)
	table.Count(m, none)
	accesses(3)
	status.Table{From: 3, N: 0}.Count(m, none)
	status.Table{From: 3, N: -4}.Count(m, none)
	accesses(0)
}

func TestNoSuchGoroutine(t *testing.T) {
	m := cell.New(8)
	for i := range 8 {
		m.Store(i, 1)
	}
	for _, c := range []struct {
		table status.Table
		g     int
	}{
		{status.Table{From: 3, N: 3}, -1}, {status.Table{From: 3, N: 3}, 3}, {status.Table{From: 3, N: 3}, math.MinInt},
		{status.Table{From: 3, N: 3}, math.MaxInt}, {status.Table{From: 3, N: 0}, 0}, {status.Table{From: 3, N: -1}, -1},
	} {
		if c.table.Of(m, c.g) != 0 || c.table.Move(m, c.g, runnable, running) || c.table.Set(m, c.g, dead) {
			t.Errorf("%d of %v is there", c.g, c.table)
		}
	}
	if m.Count() != 8 || (status.Table{From: 0, N: 8}).Count(m, runnable) != 8 {
		t.Error("something happened")
	}
}

func TestCount(t *testing.T) {
	m, table := cell.New(20), status.Table{From: 1, N: 15}
	m.Store(0, 3)
	m.Store(16, 3)
	for g := range 15 {
		table.Set(m, g, status.Status(g*g%7))
	}
	want := map[status.Status]int{}
	for g := range 15 {
		want[status.Status(g*g%7)]++
	}
	for s := range status.Status(9) {
		if got := table.Count(m, s); got != want[s] {
			t.Errorf("Count(%d): %d, want %d", s, got, want[s])
		}
	}
}

func TestDeadStaysSoByMoves(t *testing.T) {
	m, table := cell.New(1), status.Table{From: 0, N: 1}
	for _, s := range []status.Status{runnable, running, dead} {
		if !table.Move(m, 0, table.Of(m, 0), s) {
			t.Fatal("no way to", s)
		}
	}
	for from := range status.Status(8) {
		for to := range status.Status(8) {
			if table.Move(m, 0, from, to) || table.Of(m, 0) != dead {
				t.Errorf("dead moved from %d to %d", from, to)
			}
		}
	}
}
