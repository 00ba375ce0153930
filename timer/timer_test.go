package timer_test

import (
	"math"
	"slices"
	"testing"

	"hostler/api"
	"hostler/heap"
	"hostler/timer"
)

type entry = heap.Entry

func at(when int64, order uint64, g int) entry { return entry{When: when, Order: order, G: g} }

func add(t *testing.T, x *timer.Timers, p, g int, when int64) {
	t.Helper()
	if e := x.Add(p, g, when); e != api.OK {
		t.Errorf("Add(%d, %d, %d): %d", p, g, when, e)
	}
}

func take(t *testing.T, x *timer.Timers, now int64, want entry) {
	t.Helper()
	if e, ok := x.Take(now); e != want || !ok {
		t.Errorf("Take(%d): %v, %v, want %v", now, e, ok, want)
	}
	if x.Has(want.G) {
		t.Errorf("%d still has a timer", want.G)
	}
}

func none(t *testing.T, x *timer.Timers, now int64) {
	t.Helper()
	if e, ok := x.Take(now); e != (entry{}) || ok || x.Due(now) {
		t.Errorf("Take(%d): %v, %v", now, e, ok)
	}
}

func TestExample(t *testing.T) {
	x := timer.New(2)
	add(t, x, 0, 7, 5)
	add(t, x, 1, 8, 3)
	if when, ok := x.Next(); when != 3 || !ok {
		t.Error(when, ok)
	}
	take(t, x, 4, at(3, 1, 8))
	none(t, x, 4)
}

func TestNewForSoManyProcessors(t *testing.T) {
	for _, c := range []struct{ n, want int }{
		{math.MinInt, 1}, {-1, 1}, {0, 1}, {1, 1}, {3, 3}, {64, 64}, {65, 64}, {math.MaxInt, 64},
	} {
		x := timer.New(c.n)
		if when, ok := x.Next(); x.Len() != 0 || when != 0 || ok || x.Has(0) {
			t.Errorf("New(%d) has some", c.n)
		}
		none(t, x, math.MaxInt64)
		if x.Add(c.want, 1, 0) != api.ErrArg || x.Add(c.want-1, 1, 0) != api.OK || len(x.Of(c.want-1)) != 1 {
			t.Errorf("New(%d) hasn't %d processors", c.n, c.want)
		}
	}
}

func TestAddOfWhatThereIsNot(t *testing.T) {
	x := timer.New(2)
	add(t, x, 1, 5, 9)
	for _, c := range []struct {
		p, g int
		want api.Errno
	}{
		{-1, 1, api.ErrArg}, {2, 1, api.ErrArg}, {math.MinInt, 1, api.ErrArg}, {math.MaxInt, 1, api.ErrArg},
		{0, -1, api.ErrArg}, {0, api.MaxG, api.ErrArg}, {0, math.MinInt, api.ErrArg}, {0, math.MaxInt, api.ErrArg},
		{2, 5, api.ErrArg}, {0, 5, api.ErrSame}, {1, 5, api.ErrSame},
	} {
		if e := x.Add(c.p, c.g, 1); e != c.want {
			t.Errorf("Add(%d, %d): %d, want %d", c.p, c.g, e, c.want)
		}
	}
	if x.Len() != 1 || x.Has(-1) || x.Has(api.MaxG) || x.Has(1) || !x.Has(5) {
		t.Error("something happened")
	}
	add(t, x, 0, 0, math.MinInt64)
	add(t, x, 0, api.MaxG-1, math.MaxInt64)
	if !slices.Equal(x.Of(0), []entry{at(math.MinInt64, 1, 0), at(math.MaxInt64, 2, api.MaxG-1)}) {
		t.Error("Orders count what wasn't added:", x.Of(0))
	}
}

func TestOfIsSorted(t *testing.T) {
	x := timer.New(3)
	for i, when := range []int64{5, 1, 9, 3, 5, 1, 7} {
		add(t, x, 1, 20-i, when)
	}
	add(t, x, 2, 30, 0)
	want := []entry{at(1, 1, 19), at(1, 5, 15), at(3, 3, 17), at(5, 0, 20), at(5, 4, 16), at(7, 6, 14), at(9, 2, 18)}
	if !slices.Equal(x.Of(1), want) {
		t.Error(x.Of(1))
	}
	if !slices.Equal(x.Of(2), []entry{at(0, 7, 30)}) || len(x.Of(0)) != 0 {
		t.Error(x.Of(2), x.Of(0))
	}
	for _, p := range []int{-1, 3, math.MinInt, math.MaxInt} {
		if len(x.Of(p)) != 0 {
			t.Errorf("Of(%d): %v", p, x.Of(p))
		}
	}
	if x.Len() != 8 {
		t.Error(x.Len())
	}
}

func TestNoneIsTakenAheadOfItsWhen(t *testing.T) {
	x := timer.New(2)
	add(t, x, 0, 1, 10)
	add(t, x, 1, 2, -4)
	add(t, x, 1, 3, math.MaxInt64)
	none(t, x, math.MinInt64)
	none(t, x, -5)
	if !x.Due(-4) || !x.Due(0) {
		t.Error("not due")
	}
	take(t, x, -4, at(-4, 1, 2))
	none(t, x, 9)
	if when, ok := x.Next(); when != 10 || !ok {
		t.Error(when, ok)
	}
	take(t, x, 10, at(10, 0, 1))
	none(t, x, math.MaxInt64-1)
	if when, ok := x.Next(); when != math.MaxInt64 || !ok {
		t.Error(when, ok)
	}
	take(t, x, math.MaxInt64, at(math.MaxInt64, 2, 3))
	none(t, x, math.MaxInt64)
	if when, ok := x.Next(); when != 0 || ok || x.Len() != 0 {
		t.Error(when, ok)
	}
}

func TestOfOneWhenInTheOrderOfAdds(t *testing.T) {
	x := timer.New(4)
	gs := []int{9, 2, 7, 1, 8, 3}
	for i, g := range gs {
		add(t, x, 3-i%4, g, 6)
	}
	for i, g := range gs {
		take(t, x, 7, at(6, uint64(i), g))
	}
	add(t, x, 0, 9, 6)
	take(t, x, 6, at(6, 6, 9))
}

func TestCopyIsApart(t *testing.T) {
	x := timer.New(2)
	add(t, x, 0, 1, 10)
	add(t, x, 1, 2, 20)
	c := x.Copy()
	take(t, c, 10, at(10, 0, 1))
	add(t, c, 0, 3, 5)
	add(t, x, 1, 4, 1)
	if !x.Has(1) || x.Has(3) || c.Has(4) || c.Len() != 2 || x.Len() != 3 {
		t.Error("it isn't apart")
	}
	take(t, c, 5, at(5, 2, 3))
	take(t, x, 5, at(1, 2, 4))
	if x.Add(1, 2, 0) != api.ErrSame || c.Add(1, 2, 0) != api.ErrSame {
		t.Error("2 has no timer")
	}
	x.Of(1)[0].When = 0
	if x.Due(5) {
		t.Error("Of isn't new")
	}
	if x.Copy().Add(2, 9, 0) != api.ErrArg {
		t.Error("the copy has other processors")
	}
}

func TestAgainstAList(t *testing.T) {
	x, r, order := timer.New(3), uint32(23), uint64(0)
	var want []entry
	for range 5000 {
		r = r*1664525 + 1013904223
		now := int64(r>>8) % 40
		if r>>30 < 2 {
			g := int(r>>4) % 50
			e := x.Add(int(r>>3)%3, g, now)
			if same := slices.ContainsFunc(want, func(e entry) bool { return e.G == g }); same != (e == api.ErrSame) {
				t.Fatal("Add", e)
			}
			if e == api.OK {
				want = append(want, at(now, order, g))
				order++
			}
			slices.SortStableFunc(want, func(a, b entry) int { return int(a.When - b.When) })
			continue
		}
		e, ok := x.Take(now)
		if is := len(want) > 0 && want[0].When <= now; ok != is || ok && e != want[0] {
			t.Fatal("Take", e, ok)
		} else if ok {
			want = want[1:]
		}
		if x.Len() != len(want) {
			t.Fatal("Len")
		}
	}
}
