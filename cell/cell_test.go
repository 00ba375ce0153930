package cell_test

import (
	"math"
	"testing"

	"hostler/cell"
)

func TestNewHasSoManyWordsOfZero(t *testing.T) {
	for _, c := range []struct{ n, want int }{
		{math.MinInt, 0}, {-1, 0}, {0, 0}, {1, 1}, {7, 7},
		{1<<16 - 1, 1<<16 - 1}, {1 << 16, 1 << 16}, {1<<16 + 1, 1 << 16}, {math.MaxInt, 1 << 16},
	} {
		m := cell.New(c.n)
		if m.Len() != c.want || m.Count() != 0 {
			t.Errorf("New(%d): %d words, %d accesses", c.n, m.Len(), m.Count())
		}
		for i := range m.Len() {
			if m.Load(i) != 0 {
				t.Fatalf("New(%d): word %d isn't 0", c.n, i)
			}
		}
	}
}

func TestExample(t *testing.T) {
	m := cell.New(2)
	if x := m.Add(1, -1); x != math.MaxUint64 {
		t.Errorf("Add(1, -1): %d", x)
	}
	if m.Swap(1, 0, 5) || m.Load(1) != math.MaxUint64 {
		t.Error("Swap(1, 0, 5) swapped")
	}
}

func TestStoreAndLoad(t *testing.T) {
	m := cell.New(3)
	if !m.Store(1, math.MaxUint64) || !m.Store(2, 7) || !m.Store(1, 9) {
		t.Error("Store isn't true")
	}
	for i, want := range []uint64{0, 9, 7} {
		if m.Load(i) != want {
			t.Errorf("word %d: %d", i, m.Load(i))
		}
	}
}

func TestSwapOnlyIfItIsOld(t *testing.T) {
	m := cell.New(2)
	m.Store(0, 3)
	if m.Swap(0, 4, 5) || m.Load(0) != 3 {
		t.Error("swapped, though it wasn't old")
	}
	if !m.Swap(0, 3, 5) || m.Load(0) != 5 || m.Load(1) != 0 {
		t.Error("not swapped")
	}
	if !m.Swap(0, 5, 5) || m.Load(0) != 5 {
		t.Error("not swapped for the same")
	}
}

func TestAddGoesRound(t *testing.T) {
	m := cell.New(2)
	for _, c := range []struct {
		d    int64
		want uint64
	}{
		{5, 5}, {-2, 3}, {0, 3}, {-4, math.MaxUint64}, {1, 0},
		{math.MaxInt64, math.MaxInt64}, {math.MaxInt64, math.MaxUint64 - 1}, {3, 1}, {math.MinInt64, 1<<63 + 1},
	} {
		if x := m.Add(0, c.d); x != c.want || m.Load(0) != c.want {
			t.Errorf("Add %d: %d, want %d", c.d, x, c.want)
		}
	}
	if m.Load(1) != 0 {
		t.Error("another word changed")
	}
}

func TestNoSuchWord(t *testing.T) {
	m := cell.New(2)
	m.Store(0, 1)
	m.Store(1, 2)
	for _, i := range []int{math.MinInt, -1, 2, 3, 1 << 16, math.MaxInt} {
		if m.Load(i) != 0 || m.Store(i, 8) || m.Swap(i, 0, 8) || m.Add(i, 8) != 0 {
			t.Errorf("word %d is there", i)
		}
	}
	if m.Count() != 2 || m.Load(0) != 1 || m.Load(1) != 2 {
		t.Error("something happened")
	}
}

func TestCountCountsEachAccess(t *testing.T) {
	m := cell.New(1)
	m.Load(0)
	m.Store(0, 4)
	m.Swap(0, 4, 5)
	m.Swap(0, 4, 6)
	m.Add(0, 0)
	if m.Count() != 5 {
		t.Errorf("%d accesses", m.Count())
	}
	m.Len()
	m.Count()
	m.Copy()
	m.Same(m)
	if m.Count() != 5 {
		t.Errorf("%d accesses, though nothing was asked", m.Count())
	}
}

func TestCopyIsApart(t *testing.T) {
	m := cell.New(2)
	m.Store(0, 1)
	m.Add(1, 2)
	c := m.Copy()
	if c.Count() != 2 || c.Len() != 2 || !c.Same(m) || !m.Same(c) {
		t.Error("the copy isn't the same")
	}
	c.Store(0, 9)
	m.Store(1, 8)
	m.Load(0)
	if m.Load(0) != 1 || c.Load(1) != 2 || c.Count() != 4 || m.Count() != 5 {
		t.Error("the copy isn't apart")
	}
}

func TestSame(t *testing.T) {
	a, b := cell.New(2), cell.New(2)
	b.Load(0)
	if !a.Same(b) || !a.Same(a) {
		t.Error("Counts matter")
	}
	b.Store(1, 1)
	if a.Same(b) || b.Same(a) {
		t.Error("unlike words are the same")
	}
	if a.Same(cell.New(3)) || cell.New(3).Same(a) {
		t.Error("unlike lengths are the same")
	}
	if !cell.New(0).Same(cell.New(-1)) {
		t.Error("no words aren't the same")
	}
}

func TestNilHasNoWords(t *testing.T) {
	var m *cell.Memory
	if m.Len() != 0 || m.Load(0) != 0 || m.Store(0, 1) || m.Swap(0, 0, 1) || m.Add(0, 1) != 0 || m.Count() != 0 {
		t.Error("nil has words")
	}
	if m.Copy() != nil {
		t.Error("its copy isn't nil")
	}
	if !m.Same(nil) || !m.Same(cell.New(0)) || !cell.New(0).Same(nil) || m.Same(cell.New(1)) || cell.New(1).Same(nil) {
		t.Error("Same of nil")
	}
}
