package source_test

import (
	"math"
	"testing"

	"hostler/api"
	"hostler/source"
)

// told checks what a call tells: whether something is due, and its error.
func told(t *testing.T, wantDue bool, want api.Errno) func(bool, api.Errno) {
	return func(due bool, e api.Errno) {
		t.Helper()
		if due != wantDue || e != want {
			t.Errorf("told %v, %d, want %v, %d", due, e, wantDue, want)
		}
	}
}

func take(t *testing.T, s *source.Source, want int) {
	t.Helper()
	if !s.Due() || !s.Out(want) {
		t.Errorf("%d isn't due", want)
	}
	if g, ok := s.Take(); g != want || !ok || s.Out(want) {
		t.Errorf("Take: %d, %v, want %d", g, ok, want)
	}
}

func none(t *testing.T, s *source.Source) {
	t.Helper()
	if g, ok := s.Take(); g != 0 || ok || s.Due() {
		t.Errorf("Take: %d, %v", g, ok)
	}
}

func TestExample(t *testing.T) {
	s := source.New(1)
	told(t, false, api.OK)(s.Sleep(0, 7, 5))
	if s.Tick(4) || !s.Tick(1) {
		t.Error("not due at 5 first")
	}
	take(t, s, 7)
}

func TestNewForSoManyProcessors(t *testing.T) {
	for _, c := range []struct{ n, want int }{
		{math.MinInt, 1}, {0, 1}, {1, 1}, {2, 2}, {64, 64}, {65, 64}, {math.MaxInt, 64},
	} {
		s := source.New(c.n)
		if when, ok := s.Next(); s.Now() != 0 || s.Len() != 0 || s.Out(0) || when != 0 || ok {
			t.Errorf("New(%d) has some", c.n)
		}
		none(t, s)
		told(t, false, api.ErrArg)(s.Sleep(c.want, 1, 5))
		told(t, false, api.OK)(s.Sleep(c.want-1, 1, 5))
		told(t, false, api.OK)(s.Wait(3, 2))
		told(t, false, api.ErrArg)(s.Sleep(c.want, 2, 5))
		told(t, false, api.ErrSame)(s.Sleep(c.want-1, 2, 5))
	}
}

func TestSleepAtAfter(t *testing.T) {
	s := source.New(2)
	s.Tick(100)
	told(t, false, api.OK)(s.Sleep(1, 3, 20))
	if when, ok := s.Next(); when != 120 || !ok {
		t.Error(when, ok)
	}
	told(t, false, api.OK)(s.Sleep(0, 4, math.MaxInt64))
	told(t, true, api.OK)(s.Sleep(0, 5, -7))
	if when, ok := s.Next(); when != 100 || !ok {
		t.Error("below 0 isn't as 0:", when, ok)
	}
	told(t, true, api.OK)(s.Sleep(0, 6, 50))
	take(t, s, 5)
	none(t, s)
	if !s.Tick(20) || s.Now() != 120 {
		t.Error(s.Now())
	}
	take(t, s, 3)
	if !s.Tick(math.MaxInt64-121) || s.Now() != math.MaxInt64-1 {
		t.Error(s.Now())
	}
	take(t, s, 6)
	none(t, s)
	if when, ok := s.Next(); when != math.MaxInt64 || !ok {
		t.Error("not held at the end:", when)
	}
	if !s.Tick(9) || s.Now() != math.MaxInt64 {
		t.Error(s.Now())
	}
	take(t, s, 4)
	told(t, true, api.OK)(s.Sleep(0, 4, 3))
	take(t, s, 4)
	if s.Tick(-5) || s.Now() != math.MaxInt64 {
		t.Error("time goes back")
	}
}

func TestErrorsOfSleep(t *testing.T) {
	s := source.New(2)
	told(t, false, api.OK)(s.Sleep(0, 1, 50))
	told(t, false, api.OK)(s.Wait(9, 2))
	for _, c := range []struct {
		p, g int
		want api.Errno
	}{
		{-1, 5, api.ErrArg}, {2, 5, api.ErrArg}, {0, -1, api.ErrArg}, {0, api.MaxG, api.ErrArg},
		{math.MaxInt, math.MinInt, api.ErrArg},
		{2, 1, api.ErrArg}, {-1, 1, api.ErrArg}, {2, 2, api.ErrArg}, {-1, 2, api.ErrArg},
		{0, 1, api.ErrSame}, {1, 1, api.ErrSame}, {0, 2, api.ErrSame}, {1, 2, api.ErrSame},
	} {
		told(t, false, c.want)(s.Sleep(c.p, c.g, 0))
	}
	if s.Len() != 2 || s.Due() || s.Out(5) {
		t.Error("something happened")
	}
	s.Tick(50)
	told(t, false, api.ErrSame)(s.Sleep(0, 2, 0))
	if !s.Due() {
		t.Error("not due")
	}
	told(t, false, api.ErrArg)(s.Sleep(0, -1, 0))
	take(t, s, 1)
	told(t, true, api.OK)(s.Sleep(0, 1, 0))
}

func TestErrorsOfWait(t *testing.T) {
	s := source.New(1)
	told(t, false, api.OK)(s.Sleep(0, 1, 50))
	told(t, false, api.OK)(s.Wait(9, 2))
	for _, c := range []struct {
		fd   uint16
		g    int
		want api.Errno
	}{
		{8, -1, api.ErrArg}, {9, -1, api.ErrArg}, {8, api.MaxG, api.ErrArg}, {8, math.MaxInt, api.ErrArg},
		{8, 1, api.ErrSame}, {8, 2, api.ErrSame}, {9, 2, api.ErrSame}, {9, 3, api.ErrSame},
	} {
		told(t, false, c.want)(s.Wait(c.fd, c.g))
	}
	for i := range api.MaxFD - 1 {
		told(t, false, api.OK)(s.Ready(uint16(10 + i)))
	}
	told(t, false, api.ErrFull)(s.Wait(5000, 5))
	told(t, false, api.ErrFull)(s.Ready(5000))
	told(t, false, api.ErrSame)(s.Wait(5000, 1))
	if s.Len() != 2 || s.Out(3) || s.Out(5) || s.Due() {
		t.Error("something happened", s.Len())
	}
	told(t, true, api.OK)(s.Ready(9))
	told(t, false, api.ErrFull)(s.Ready(5000))
	told(t, false, api.ErrSame)(s.Wait(8, 1))
	if !s.Due() {
		t.Error("not due")
	}
}

func TestWaitAndReady(t *testing.T) {
	s := source.New(1)
	told(t, false, api.OK)(s.Wait(9, 2))
	told(t, false, api.OK)(s.Ready(4))
	told(t, true, api.OK)(s.Ready(9))
	told(t, true, api.OK)(s.Wait(4, 3))
	told(t, true, api.OK)(s.Wait(5, 4))
	if !s.Tick(1) || s.Len() != 3 {
		t.Error("not due")
	}
	if _, ok := s.Next(); ok {
		t.Error("a descriptor is a timer")
	}
	take(t, s, 3)
	take(t, s, 2)
	none(t, s)
	if s.Len() != 1 || !s.Out(4) {
		t.Error(s.Len())
	}
}

func TestTimersAheadOfDescriptors(t *testing.T) {
	s := source.New(2)
	told(t, false, api.OK)(s.Wait(0, 1))
	told(t, false, api.OK)(s.Sleep(1, 2, 5))
	told(t, false, api.OK)(s.Sleep(0, 3, 5))
	told(t, false, api.OK)(s.Sleep(0, 4, 4))
	told(t, true, api.OK)(s.Ready(0))
	if s.Len() != 4 || !s.Tick(5) {
		t.Error(s.Len())
	}
	for i, g := range []int{4, 2, 3, 1} {
		take(t, s, g)
		if s.Len() != 3-i {
			t.Error("Len", s.Len())
		}
	}
	none(t, s)
}

func TestCopyIsApart(t *testing.T) {
	s := source.New(3)
	s.Tick(5)
	s.Sleep(2, 1, 5)
	s.Wait(7, 2)
	c := s.Copy()
	if c.Now() != 5 || c.Len() != 2 || !c.Out(1) || !c.Out(2) {
		t.Error("it isn't the same")
	}
	if !c.Tick(5) || s.Now() != 5 || s.Due() {
		t.Error("the clock isn't apart")
	}
	take(t, c, 1)
	told(t, true, api.OK)(s.Ready(7))
	none(t, c)
	take(t, s, 2)
	if s.Len() != 1 || c.Len() != 1 || !s.Out(1) || !c.Out(2) {
		t.Error("it isn't apart")
	}
	told(t, false, api.ErrArg)(c.Sleep(3, 9, 1))
	told(t, false, api.OK)(c.Sleep(2, 9, 1))
	if s.Out(9) {
		t.Error("it isn't apart")
	}
}

func TestEachIsTakenOnceAndInTime(t *testing.T) {
	s, x := source.New(2), uint32(5)
	until, waits, ready, taken := map[int]int64{}, map[int]uint16{}, map[uint16]bool{}, 0
	for range 8000 {
		x = x*1664525 + 1013904223
		g, n := int(x>>8)%60, int(x>>16)%50
		_, sleeps := until[g]
		_, polls := waits[g]
		switch x >> 29 {
		case 0, 1:
			if _, e := s.Sleep(n%2, g, int64(n)); e == api.OK {
				if sleeps || polls {
					t.Fatal(g, "was out")
				}
				until[g] = s.Now() + int64(n)
			}
		case 2, 3:
			if _, e := s.Wait(uint16(n), g); e == api.OK {
				if sleeps || polls {
					t.Fatal(g, "was out")
				}
				waits[g] = uint16(n)
			}
		case 4:
			s.Tick(int64(n % 9))
		case 5:
			if _, e := s.Ready(uint16(n)); e == api.OK {
				ready[uint16(n)] = true
			}
		default:
			g, ok := s.Take()
			when, sleeps := until[g]
			fd, polls := waits[g]
			if ok && !(sleeps && when <= s.Now() || polls && ready[fd]) {
				t.Fatal("Take", g)
			}
			if ok {
				delete(until, g)
				delete(waits, g)
				if polls {
					delete(ready, fd)
				}
				taken++
			}
		}
		if s.Len() != len(until)+len(waits) {
			t.Fatal("Len", s.Len())
		}
	}
	if taken < 500 {
		t.Error("few were taken:", taken)
	}
}
