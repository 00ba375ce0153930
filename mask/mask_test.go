package mask_test

import (
	"math"
	"slices"
	"testing"

	"hostler/mask"
)

func of(n int, l ...int) *mask.Mask {
	m := mask.New(n)
	for _, i := range l {
		m.Put(i)
	}
	return m
}

func TestNewHasAllOut(t *testing.T) {
	for _, c := range []struct{ n, want int }{
		{math.MinInt, 0}, {-1, 0}, {0, 0}, {1, 1}, {64, 64}, {65, 65},
		{4095, 4095}, {4096, 4096}, {4097, 4096}, {math.MaxInt, 4096},
	} {
		m := mask.New(c.n)
		if m.Len() != c.want || m.Count() != 0 || m.First() != -1 || m.Next(-1) != -1 {
			t.Errorf("New(%d): Len %d, Count %d, First %d", c.n, m.Len(), m.Count(), m.First())
		}
		if m.Put(c.want) || m.Has(c.want) {
			t.Errorf("New(%d): %d is there", c.n, c.want)
		}
		if c.want > 0 && (!m.Put(c.want-1) || !m.Has(c.want-1) || m.First() != c.want-1) {
			t.Errorf("New(%d): %d isn't there", c.n, c.want-1)
		}
	}
}

func TestExample(t *testing.T) {
	m := mask.New(70)
	if !m.Put(3) || !m.Put(64) {
		t.Error("Put isn't true")
	}
	if !slices.Equal(m.Words(), []uint64{8, 1}) || m.Next(3) != 64 {
		t.Error(m.Words(), m.Next(3))
	}
}

func TestPutTakeHas(t *testing.T) {
	m := mask.New(130)
	for _, i := range []int{0, 63, 64, 127, 128, 129} {
		if m.Has(i) || m.Take(i) {
			t.Errorf("%d is in at first", i)
		}
		if !m.Put(i) || !m.Has(i) || m.Put(i) {
			t.Errorf("%d isn't put once", i)
		}
	}
	if m.Count() != 6 || m.Has(1) || m.Has(65) {
		t.Error("others are in")
	}
	if !m.Take(64) || m.Has(64) || m.Take(64) || m.Count() != 5 {
		t.Error("64 isn't taken once")
	}
	if !m.Put(64) || m.Count() != 6 {
		t.Error("64 isn't put again")
	}
}

func TestNoSuchNumber(t *testing.T) {
	m := of(70, 0, 69)
	for _, i := range []int{math.MinInt, -64, -1, 70, 71, 127, 128, math.MaxInt} {
		if m.Put(i) || m.Take(i) || m.Has(i) {
			t.Errorf("%d is there", i)
		}
	}
	if m.Count() != 2 || !slices.Equal(m.Words(), []uint64{1, 32}) {
		t.Error("something happened")
	}
}

func TestNextIsTheLeastAbove(t *testing.T) {
	m := of(200, 5, 63, 64, 150, 199)
	if m.First() != 5 {
		t.Errorf("First: %d", m.First())
	}
	for _, c := range []struct{ i, want int }{
		{math.MinInt, 5}, {-2, 5}, {-1, 5}, {0, 5}, {4, 5}, {5, 63}, {6, 63}, {62, 63}, {63, 64},
		{64, 150}, {149, 150}, {150, 199}, {198, 199}, {199, -1}, {200, -1}, {1000, -1}, {math.MaxInt, -1},
	} {
		if got := m.Next(c.i); got != c.want {
			t.Errorf("Next(%d): %d, want %d", c.i, got, c.want)
		}
	}
	if of(10, 0).First() != 0 || of(10, 0).Next(-1) != 0 || of(10, 0).Next(0) != -1 {
		t.Error("0 alone")
	}
}

func TestAllRises(t *testing.T) {
	m := of(4096, 4095, 64, 0, 128, 63)
	if got := slices.Collect(m.All()); !slices.Equal(got, []int{0, 63, 64, 128, 4095}) {
		t.Error(got)
	}
	if got := slices.Collect(mask.New(0).All()); len(got) != 0 {
		t.Error(got)
	}
}

func TestAllIsAsItIsWhenGoneThrough(t *testing.T) {
	m := of(10, 1)
	all := m.All()
	m.Put(4)
	m.Take(1)
	if got := slices.Collect(all); !slices.Equal(got, []int{4}) {
		t.Error(got)
	}
	m.Put(2)
	if got := slices.Collect(all); !slices.Equal(got, []int{2, 4}) {
		t.Error(got)
	}
}

func TestAllStopsWhenTold(t *testing.T) {
	var got []int
	for i := range of(100, 1, 2, 70, 80).All() {
		got = append(got, i)
		if i == 70 {
			break
		}
	}
	if !slices.Equal(got, []int{1, 2, 70}) {
		t.Error(got)
	}
}

func TestWordsForEach64ThatAreBegun(t *testing.T) {
	for _, c := range []struct{ n, want int }{{0, 0}, {1, 1}, {64, 1}, {65, 2}, {128, 2}, {129, 3}, {4096, 64}} {
		w := mask.New(c.n).Words()
		if len(w) != c.want {
			t.Errorf("of %d: %d words", c.n, len(w))
		}
		for _, x := range w {
			if x != 0 {
				t.Errorf("of %d: %v", c.n, w)
			}
		}
	}
	if w := of(129, 0, 63, 64, 66, 128).Words(); !slices.Equal(w, []uint64{1<<63 | 1, 5, 1}) {
		t.Error(w)
	}
}

func TestWordsAndCopyAreApart(t *testing.T) {
	m := of(70, 3)
	w := m.Words()
	w[0], w[1] = 0, 1
	if !m.Has(3) || m.Has(64) || m.Count() != 1 {
		t.Error("the words are the mask's own")
	}
	c := m.Copy()
	if c.Len() != 70 || !c.Has(3) || c.Count() != 1 {
		t.Error("the copy isn't the same")
	}
	c.Take(3)
	m.Put(64)
	if !m.Has(3) || c.Has(64) || c.Has(3) {
		t.Error("the copy isn't apart")
	}
}

func TestAgainstAMapOfBools(t *testing.T) {
	m, in, x := mask.New(300), map[int]bool{}, uint32(1)
	for range 5000 {
		x = x*1664525 + 1013904223
		i := int(x>>8)%304 - 2
		is := i >= 0 && i < 300
		if x>>30 == 0 {
			if m.Take(i) != in[i] {
				t.Fatal("Take", i)
			}
			delete(in, i)
		} else if m.Put(i) != (is && !in[i]) {
			t.Fatal("Put", i)
		} else if is {
			in[i] = true
		}
		if m.Count() != len(in) || m.Has(i) != in[i] {
			t.Fatal("Count, Has", i)
		}
	}
	want := []int{}
	for i := range 300 {
		if in[i] {
			want = append(want, i)
		}
	}
	if !slices.Equal(slices.Collect(m.All()), want) {
		t.Error("All")
	}
}
