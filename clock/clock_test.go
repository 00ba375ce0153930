package clock_test

import (
	"math"
	"testing"

	"hostler/clock"
)

func TestExample(t *testing.T) {
	var c clock.Clock
	if clock.End != 1<<63-1 {
		t.Error("the end")
	}
	if c.Tick(5) != 5 || c.After(1<<63-1) != clock.End {
		t.Error(c.Now(), c.After(1<<63-1))
	}
}

func TestSum(t *testing.T) {
	const least, end = math.MinInt64, math.MaxInt64
	for _, c := range []struct{ t, d, want int64 }{
		{0, 0, 0}, {3, 4, 7}, {3, -4, -1}, {-3, -4, -7},
		{end, 0, end}, {end, 1, end}, {end, end, end}, {1, end, end}, {0, end, end}, {-1, end, end - 1},
		{end - 5, 5, end}, {end - 5, 4, end - 1}, {end - 5, 6, end},
		{least, 0, least}, {least, -1, least}, {least, least, least}, {-1, least, least}, {0, least, least},
		{1, least, least + 1}, {least + 5, -5, least}, {least + 5, -4, least + 1}, {least + 5, -6, least},
		{least, end, -1}, {end, least, -1},
	} {
		if got := clock.Sum(c.t, c.d); got != c.want {
			t.Errorf("Sum(%d, %d): %d, want %d", c.t, c.d, got, c.want)
		}
		if got := clock.Sum(c.d, c.t); got != c.want {
			t.Errorf("Sum(%d, %d): %d, want %d", c.d, c.t, got, c.want)
		}
	}
}

func TestTick(t *testing.T) {
	var c clock.Clock
	if c.Now() != 0 {
		t.Error("at first", c.Now())
	}
	for _, s := range []struct{ d, want int64 }{
		{0, 0}, {7, 7}, {-1, 7}, {math.MinInt64, 7}, {3, 10}, {math.MaxInt64 - 11, math.MaxInt64 - 1},
		{-5, math.MaxInt64 - 1}, {1, math.MaxInt64}, {1, math.MaxInt64}, {math.MaxInt64, math.MaxInt64}, {-1, math.MaxInt64},
	} {
		if got := c.Tick(s.d); got != s.want || c.Now() != s.want {
			t.Errorf("Tick(%d): %d, Now %d, want %d", s.d, got, c.Now(), s.want)
		}
	}
	var e clock.Clock
	e.Tick(10)
	if e.Tick(math.MaxInt64) != clock.End {
		t.Error("beyond the end", e.Now())
	}
}

func TestAfter(t *testing.T) {
	var c clock.Clock
	c.Tick(10)
	for _, s := range []struct{ d, want int64 }{
		{0, 10}, {5, 15}, {-1, 10}, {math.MinInt64, 10},
		{math.MaxInt64 - 11, math.MaxInt64 - 1}, {math.MaxInt64 - 10, clock.End}, {math.MaxInt64 - 9, clock.End}, {math.MaxInt64, clock.End},
	} {
		if got := c.After(s.d); got != s.want || c.Now() != 10 {
			t.Errorf("After(%d): %d, Now %d, want %d", s.d, got, c.Now(), s.want)
		}
	}
}

func TestPast(t *testing.T) {
	var c clock.Clock
	c.Tick(10)
	for s, want := range map[int64]bool{
		math.MinInt64: true, -1: true, 0: true, 9: true, 10: true, 11: false, math.MaxInt64 - 1: false, math.MaxInt64: false,
	} {
		if c.Past(s) != want {
			t.Errorf("at 10: Past(%d) isn't %v", s, want)
		}
	}
	c.Tick(math.MaxInt64 - 11)
	if c.Past(clock.End) || !c.Past(clock.End-1) {
		t.Error("the end is past ahead of it")
	}
	c.Tick(1)
	if !c.Past(clock.End) {
		t.Error("the end isn't past at the end")
	}
}

func TestTimeNeverGoesBack(t *testing.T) {
	var c clock.Clock
	x, was := uint64(9), int64(0)
	for range 2000 {
		x = x*6364136223846793005 + 1442695040888963407
		d := int64(x) >> (x % 63)
		after := c.After(d)
		now := c.Tick(d)
		if now < was || now != after || now != c.Now() || d <= 0 && now != was || !c.Past(was) {
			t.Fatal(was, d, now)
		}
		if x%97 == 0 {
			c, now = clock.Clock{}, 0
		}
		was = now
	}
}
