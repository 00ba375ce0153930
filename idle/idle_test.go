package idle_test

import (
	"math"
	"slices"
	"testing"

	"hostler/idle"
)

func takeP(t *testing.T, x *idle.Idle, want int) {
	t.Helper()
	if p, ok := x.TakeP(); p != want || !ok || x.HasP(want) {
		t.Errorf("TakeP: %d, %v, want %d", p, ok, want)
	}
}

func takePending(t *testing.T, x *idle.Idle, want int) {
	t.Helper()
	if p, ok := x.TakePending(); p != want || !ok {
		t.Errorf("TakePending: %d, %v, want %d", p, ok, want)
	}
}

func takeM(t *testing.T, x *idle.Idle, want int) {
	t.Helper()
	if m, ok := x.TakeM(); m != want || !ok {
		t.Errorf("TakeM: %d, %v, want %d", m, ok, want)
	}
}

func stop(t *testing.T, x *idle.Idle, m int, wantPoller, want bool) {
	t.Helper()
	if poller, is := x.Stop(m); poller != wantPoller || is != want {
		t.Errorf("Stop(%d): %v, %v, want %v, %v", m, poller, is, wantPoller, want)
	}
}

// nobody checks that nothing is to be taken.
func nobody(t *testing.T, x *idle.Idle) {
	t.Helper()
	if p, ok := x.TakeP(); p != 0 || ok || x.CountP() != 0 {
		t.Error("TakeP", p, ok)
	}
	if p, ok := x.TakePending(); p != 0 || ok || x.Pending() != 0 {
		t.Error("TakePending", p, ok)
	}
	if m, ok := x.TakeM(); m != 0 || ok || x.CountM() != 0 {
		t.Error("TakeM", m, ok)
	}
	if m, ok := x.Poller(); m != 0 || ok {
		t.Error("Poller", m, ok)
	}
}

func TestExample(t *testing.T) {
	x := idle.New(1, 4)
	stop(t, x, 2, true, true)
	stop(t, x, 3, false, true)
	takeM(t, x, 3)
	takeM(t, x, 2)
	nobody(t, x)
}

func TestNewOfSoMany(t *testing.T) {
	for _, c := range []struct{ p, m, wantP, wantM int }{
		{math.MinInt, math.MinInt, 1, 1}, {-1, -1, 1, 1}, {0, 0, 1, 1}, {1, 1, 1, 1}, {2, 5, 2, 5},
		{64, 128, 64, 128}, {65, 129, 64, 128}, {math.MaxInt, math.MaxInt, 64, 128},
	} {
		x := idle.New(c.p, c.m)
		nobody(t, x)
		if x.PutP(c.wantP) || x.Pend(c.wantP) || !x.PutP(c.wantP-1) {
			t.Errorf("New(%d, %d) hasn't %d processors", c.p, c.m, c.wantP)
		}
		stop(t, x, c.wantM, false, false)
		stop(t, x, c.wantM-1, true, true)
	}
}

func TestPutPTakeP(t *testing.T) {
	x := idle.New(8, 1)
	for _, p := range []int{5, 0, 7, 2} {
		if x.HasP(p) || !x.PutP(p) || !x.HasP(p) || x.PutP(p) {
			t.Errorf("%d isn't put once", p)
		}
	}
	for _, p := range []int{-1, 8, math.MinInt, math.MaxInt} {
		if x.PutP(p) || x.HasP(p) {
			t.Errorf("%d is there", p)
		}
	}
	if x.CountP() != 4 || x.HasP(1) {
		t.Error(x.CountP())
	}
	takeP(t, x, 0)
	takeP(t, x, 2)
	if !x.PutP(1) || x.CountP() != 3 {
		t.Error(x.CountP())
	}
	for _, p := range []int{1, 5, 7} {
		takeP(t, x, p)
	}
	nobody(t, x)
}

func TestPend(t *testing.T) {
	x := idle.New(8, 1)
	x.PutP(3)
	for _, p := range []int{6, 1, 4} {
		if !x.Pend(p) || x.Pend(p) || x.PutP(p) || x.HasP(p) {
			t.Errorf("%d isn't pending alone", p)
		}
	}
	for _, p := range []int{3, -1, 8, math.MinInt, math.MaxInt} {
		if x.Pend(p) {
			t.Errorf("%d is pending", p)
		}
	}
	if x.Pending() != 3 || x.CountP() != 1 || !x.HasP(3) {
		t.Error(x.Pending(), x.CountP())
	}
	takePending(t, x, 6)
	if !x.Pend(6) || x.Pending() != 3 {
		t.Error("6 isn't pending again")
	}
	for _, p := range []int{1, 4, 6} {
		takePending(t, x, p)
	}
	if !x.PutP(1) || x.Pending() != 0 {
		t.Error("1 isn't idle behind it")
	}
	takeP(t, x, 1)
	if !x.Pend(1) || !x.Pend(0) || !x.Pend(7) {
		t.Error("1 isn't pending behind it, nor the first and the last one")
	}
	for _, p := range []int{1, 0, 7} {
		takePending(t, x, p)
	}
}

func TestStopAndTakeM(t *testing.T) {
	x := idle.New(1, 10)
	for _, m := range []int{-1, 10, math.MinInt, math.MaxInt} {
		stop(t, x, m, false, false)
	}
	stop(t, x, 4, true, true)
	stop(t, x, 4, false, false)
	for _, m := range []int{7, 1, 9} {
		stop(t, x, m, false, true)
		stop(t, x, m, false, false)
	}
	if m, ok := x.Poller(); m != 4 || !ok || x.CountM() != 3 {
		t.Error(m, ok, x.CountM())
	}
	takeM(t, x, 9)
	stop(t, x, 0, false, true)
	takeM(t, x, 0)
	takeM(t, x, 1)
	takeM(t, x, 7)
	if x.CountM() != 0 {
		t.Error(x.CountM())
	}
	takeM(t, x, 4)
	nobody(t, x)
	stop(t, x, 9, true, true)
	stop(t, x, 4, false, true)
}

func TestLeave(t *testing.T) {
	x := idle.New(1, 5)
	for _, m := range []int{-1, 0, 5, math.MinInt, math.MaxInt} {
		if x.Leave(m) {
			t.Errorf("%d was the poller", m)
		}
	}
	stop(t, x, 0, true, true)
	stop(t, x, 3, false, true)
	if m, ok := x.Poller(); m != 0 || !ok {
		t.Error("0 isn't the poller")
	}
	if x.Leave(3) || x.Leave(1) || x.Leave(-1) || !x.Leave(0) || x.Leave(0) {
		t.Error("Leave")
	}
	if m, ok := x.Poller(); m != 0 || ok || x.CountM() != 1 {
		t.Error(m, ok)
	}
	stop(t, x, 3, false, false)
	stop(t, x, 0, true, true)
	takeM(t, x, 3)
	stop(t, x, 3, false, true)
}

func TestCopyIsApart(t *testing.T) {
	x := idle.New(4, 6)
	x.PutP(0)
	x.Pend(1)
	x.Pend(2)
	for m := range 4 {
		x.Stop(m)
	}
	c := x.Copy()
	takeP(t, c, 0)
	takePending(t, c, 1)
	takeM(t, c, 3)
	c.Stop(5)
	c.Leave(0)
	x.PutP(3)
	x.Stop(4)
	if x.CountP() != 2 || x.Pending() != 2 || x.CountM() != 4 || c.CountP() != 0 || c.Pending() != 1 || c.CountM() != 3 {
		t.Error("it isn't apart")
	}
	if m, ok := x.Poller(); m != 0 || !ok {
		t.Error("the poller isn't apart")
	}
	takePending(t, x, 1)
	takePending(t, c, 2)
	var left []int
	for range 5 {
		m, _ := x.TakeM()
		left = append(left, m)
	}
	if !slices.Equal(left, []int{4, 3, 2, 1, 0}) {
		t.Error(left)
	}
	takeM(t, c, 5)
	takeM(t, c, 2)
	if c.Pend(4) || c.PutP(4) {
		t.Error("the copy has other processors")
	}
	stop(t, c, 6, false, false)
}

func TestOneKindAtATime(t *testing.T) {
	x, r := idle.New(6, 9), uint32(3)
	for range 20000 {
		r = r*1664525 + 1013904223
		i := int(r>>8) % 10
		switch r >> 29 {
		case 0:
			x.PutP(i)
		case 1:
			x.Pend(i)
		case 2:
			x.TakeP()
		case 3:
			x.TakePending()
		case 4, 5:
			x.Stop(i)
		case 6:
			x.TakeM()
		default:
			x.Leave(i)
		}
		c, seen, machines := x.Copy(), map[int]bool{}, map[int]bool{}
		if c.CountP()+c.Pending() > 6 || c.CountM() > 9 {
			t.Fatal("too many")
		}
		for c.CountP()+c.Pending() > 0 {
			p, ok := c.TakeP()
			if !ok {
				p, _ = c.TakePending()
			}
			if seen[p] {
				t.Fatal(p, "is of two kinds")
			}
			seen[p] = true
		}
		for m, ok := c.TakeM(); ok; m, ok = c.TakeM() {
			if machines[m] {
				t.Fatal(m, "is of two kinds")
			}
			machines[m] = true
		}
	}
}
