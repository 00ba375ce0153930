package poll_test

import (
	"math"
	"testing"

	"hostler/api"
	"hostler/poll"
)

func ok(t *testing.T, e api.Errno) {
	t.Helper()
	if e != api.OK {
		t.Errorf("error %d", e)
	}
}

func take(t *testing.T, p *poll.Poll, wantFD uint16, wantG int) {
	t.Helper()
	if !p.Due() {
		t.Error("not due")
	}
	if fd, g, is := p.Take(); fd != wantFD || g != wantG || !is {
		t.Errorf("Take: %d, %d, %v, want %d, %d", fd, g, is, wantFD, wantG)
	}
	if _, waits := p.Who(wantFD); waits || p.Is(wantFD) || p.Has(wantG) {
		t.Errorf("%d is still known", wantFD)
	}
}

func none(t *testing.T, p *poll.Poll) {
	t.Helper()
	if p.Due() {
		t.Error("due")
	}
	if fd, g, is := p.Take(); fd != 0 || g != 0 || is {
		t.Errorf("Take: %d, %d, %v", fd, g, is)
	}
}

func TestExample(t *testing.T) {
	p := poll.New()
	ok(t, p.Wait(5, 7))
	ok(t, p.Ready(4))
	none(t, p)
	ok(t, p.Ready(5))
	take(t, p, 5, 7)
	none(t, p)
}

func TestNewKnowsNone(t *testing.T) {
	p := poll.New()
	if g, is := p.Who(0); p.Len() != 0 || p.Is(0) || g != 0 || is || p.Has(0) {
		t.Error("it knows some")
	}
	none(t, p)
}

func TestWait(t *testing.T) {
	p := poll.New()
	for _, g := range []int{-1, math.MinInt, api.MaxG, math.MaxInt} {
		if p.Wait(3, g) != api.ErrArg {
			t.Errorf("of %d: no ErrArg", g)
		}
	}
	if p.Len() != 0 || p.Has(-1) || p.Has(api.MaxG) {
		t.Error("something happened")
	}
	ok(t, p.Wait(0, api.MaxG-1))
	ok(t, p.Wait(65535, 0))
	if g, is := p.Who(0); g != api.MaxG-1 || !is || !p.Has(g) {
		t.Error(g, is)
	}
	if g, is := p.Who(65535); g != 0 || !is || !p.Has(0) {
		t.Error(g, is)
	}
	if p.Wait(0, 5) != api.ErrSame || p.Wait(9, 0) != api.ErrSame || p.Wait(0, api.MaxG-1) != api.ErrSame {
		t.Error("no ErrSame")
	}
	if p.Wait(0, -1) != api.ErrArg {
		t.Error("ErrArg isn't asked first")
	}
	if p.Len() != 2 || p.Has(5) || p.Is(0) || p.Is(9) {
		t.Error("something happened")
	}
	if _, is := p.Who(9); is {
		t.Error("somebody waits for 9")
	}
}

func TestReadyAheadOfWait(t *testing.T) {
	p := poll.New()
	ok(t, p.Ready(8))
	ok(t, p.Ready(8))
	if !p.Is(8) || p.Len() != 1 {
		t.Error("8 isn't ready")
	}
	none(t, p)
	if !p.Is(8) || p.Len() != 1 {
		t.Error("8 isn't ready any more")
	}
	ok(t, p.Wait(8, 2))
	if p.Len() != 1 {
		t.Error("8 is known twice")
	}
	take(t, p, 8, 2)
	if p.Len() != 0 {
		t.Error("8 is known")
	}
	ok(t, p.Wait(8, 2))
	none(t, p)
}

func TestTakeIsTheLeast(t *testing.T) {
	p := poll.New()
	for i, fd := range []uint16{40000, 7, 300, 2, 9} {
		ok(t, p.Wait(fd, 10+i))
	}
	for _, fd := range []uint16{300, 40000, 1, 7} {
		ok(t, p.Ready(fd))
	}
	take(t, p, 7, 11)
	take(t, p, 300, 12)
	ok(t, p.Ready(2))
	take(t, p, 2, 13)
	take(t, p, 40000, 10)
	none(t, p)
	if p.Len() != 2 || !p.Is(1) || !p.Has(14) {
		t.Error("others were taken")
	}
	ok(t, p.Wait(40000, 14-4))
}

func TestFull(t *testing.T) {
	p := poll.New()
	for i := range 500 {
		ok(t, p.Wait(uint16(i), i))
	}
	for i := range 624 {
		ok(t, p.Ready(uint16(i+400)))
	}
	if p.Len() != api.MaxFD {
		t.Fatal(p.Len())
	}
	if p.Wait(2000, 3000) != api.ErrFull || p.Ready(2000) != api.ErrFull {
		t.Error("no ErrFull")
	}
	if p.Wait(2000, -1) != api.ErrArg || p.Wait(2000, 5) != api.ErrSame || p.Wait(5, 3000) != api.ErrSame {
		t.Error("ErrFull is asked ahead")
	}
	if p.Len() != api.MaxFD || p.Is(2000) || p.Has(3000) {
		t.Error("something happened")
	}
	ok(t, p.Ready(3))
	ok(t, p.Ready(900))
	ok(t, p.Wait(900, 3000))
	if p.Len() != api.MaxFD {
		t.Error(p.Len())
	}
	take(t, p, 3, 3)
	ok(t, p.Ready(2000))
	if p.Ready(2001) != api.ErrFull || p.Len() != api.MaxFD {
		t.Error("no ErrFull behind a Take")
	}
	take(t, p, 400, 400)
	ok(t, p.Wait(2001, 3001))
	if p.Wait(2002, 3002) != api.ErrFull {
		t.Error("no ErrFull")
	}
}

func TestWhoWaitsIsTakenOnce(t *testing.T) {
	p, x := poll.New(), uint32(2)
	who, ready, last := map[uint16]int{}, map[uint16]bool{}, 0
	for range 5000 {
		x = x*1664525 + 1013904223
		fd, g := uint16(x>>8)%30, int(x>>16)%30
		switch x >> 30 {
		case 0, 1:
			_, waits := who[fd]
			for _, other := range who {
				waits = waits || other == g
			}
			if e := p.Wait(fd, g); (e == api.ErrSame) != waits {
				t.Fatal("Wait", fd, g, e)
			} else if e == api.OK {
				who[fd] = g
			}
		case 2:
			ok(t, p.Ready(fd))
			ready[fd] = true
		default:
			fd, g, is := p.Take()
			for other := range who {
				if ready[other] && (!is || other < fd) {
					t.Fatal("Take", fd, g, is)
				}
			}
			if is && (!ready[fd] || who[fd] != g) {
				t.Fatal("Take", fd, g)
			}
			if is {
				last++
				delete(who, fd)
				delete(ready, fd)
			}
		}
	}
	if last < 100 {
		t.Error("few were taken:", last)
	}
}

func TestCopyIsApart(t *testing.T) {
	p := poll.New()
	ok(t, p.Wait(1, 1))
	ok(t, p.Ready(1))
	ok(t, p.Ready(2))
	c := p.Copy()
	take(t, c, 1, 1)
	ok(t, c.Wait(2, 5))
	ok(t, c.Ready(9))
	if g, is := p.Who(1); g != 1 || !is || !p.Is(1) || !p.Has(1) || p.Has(5) || p.Is(9) || p.Len() != 2 {
		t.Error("it isn't apart")
	}
	if _, is := p.Who(2); is {
		t.Error("somebody waits for 2")
	}
	ok(t, p.Wait(9, 6))
	if c.Has(6) || c.Len() != 2 {
		t.Error("it isn't apart")
	}
}
