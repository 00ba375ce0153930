package heap_test

import (
	"math"
	"slices"
	"testing"

	"hostler/heap"
)

type entry = heap.Entry

// of is a heap of these.
func of(l ...entry) *heap.Heap {
	var h heap.Heap
	for _, e := range l {
		h.Put(e)
	}
	return &h
}

// right checks the places, and that they are these entries.
func right(t *testing.T, h *heap.Heap, want []entry) {
	t.Helper()
	l := h.List()
	for i := range l {
		for c := 4*i + 1; c <= 4*i+4 && c < len(l); c++ {
			if heap.Ahead(l[c], l[i]) {
				t.Fatalf("%v at %d stands ahead of %v at %d", l[c], c, l[i], i)
			}
		}
	}
	s := h.Sorted()
	for i := 1; i < len(s); i++ {
		if heap.Ahead(s[i], s[i-1]) {
			t.Fatalf("Sorted: %v behind %v", s[i], s[i-1])
		}
	}
	want = slices.Clone(want)
	slices.SortFunc(want, order)
	if !slices.Equal(s, want) || h.Len() != len(want) || len(l) != len(want) {
		t.Fatalf("it has %v, want %v", s, want)
	}
	slices.SortFunc(l, order)
	if !slices.Equal(l, want) {
		t.Fatalf("List has %v, want %v", l, want)
	}
}

func order(a, b entry) int {
	switch {
	case a.When != b.When:
		return sign(a.When < b.When)
	case a.Order != b.Order:
		return sign(a.Order < b.Order)
	case a.G != b.G:
		return sign(a.G < b.G)
	}
	return 0
}

func sign(less bool) int {
	if less {
		return -1
	}
	return 1
}

func TestExample(t *testing.T) {
	h := of(entry{5, 1, 7}, entry{3, 2, 8}, entry{3, 1, 9})
	if e, ok := h.Take(); e != (entry{3, 1, 9}) || !ok {
		t.Error(e, ok)
	}
	right(t, h, []entry{{5, 1, 7}, {3, 2, 8}})
}

func TestAhead(t *testing.T) {
	rising := []entry{
		{math.MinInt64, math.MaxUint64, 5}, {-1, 0, 0}, {0, 0, math.MinInt}, {0, 0, -1}, {0, 0, 0}, {0, 0, math.MaxInt},
		{0, 1, -9}, {0, 1, 3}, {0, 1 << 63, 0}, {0, math.MaxUint64, 0}, {1, 0, 0}, {math.MaxInt64, 0, -3},
	}
	for i, a := range rising {
		for j, b := range rising {
			if heap.Ahead(a, b) != (i < j) {
				t.Errorf("Ahead(%v, %v) isn't %v", a, b, i < j)
			}
		}
	}
}

func TestTheZeroHeapHasNone(t *testing.T) {
	var h heap.Heap
	right(t, &h, nil)
	if e, ok := h.First(); e != (entry{}) || ok {
		t.Error(e, ok)
	}
	if e, ok := h.Take(); e != (entry{}) || ok {
		t.Error(e, ok)
	}
	if h.Remove(0) != 0 || h.Len() != 0 || h.Copy().Len() != 0 {
		t.Error("it has some")
	}
}

func TestFirstStaysTakeDoesnt(t *testing.T) {
	h := of(entry{2, 0, 1}, entry{1, 0, 2})
	for range 2 {
		if e, ok := h.First(); e != (entry{1, 0, 2}) || !ok || h.Len() != 2 {
			t.Error(e, ok)
		}
	}
	for _, want := range []entry{{1, 0, 2}, {2, 0, 1}} {
		if e, ok := h.Take(); e != want || !ok {
			t.Error(e, ok)
		}
	}
	if e, ok := h.Take(); e != (entry{}) || ok || h.Len() != 0 {
		t.Error(e, ok)
	}
}

func TestRemoveAllOfOne(t *testing.T) {
	var all, others []entry
	for i := range 60 {
		e := entry{int64(i * 37 % 60), uint64(i), i % 3}
		all = append(all, e)
		if e.G != 1 {
			others = append(others, e)
		}
	}
	h := of(all...)
	if n := h.Remove(5); n != 0 {
		t.Error("of another one:", n)
	}
	right(t, h, all)
	if n := h.Remove(1); n != 20 {
		t.Error(n)
	}
	right(t, h, others)
	if n := h.Remove(1); n != 0 {
		t.Error("again:", n)
	}
	if h.Remove(0)+h.Remove(2) != 40 || h.Len() != 0 {
		t.Error("all of all")
	}
	same := of(entry{1, 1, 4}, entry{1, 1, 4}, entry{0, 1, 3})
	if same.Len() != 3 || same.Remove(4) != 2 {
		t.Error("of entries that are the same")
	}
	right(t, same, []entry{{0, 1, 3}})
}

func TestNothingIsShared(t *testing.T) {
	h := of(entry{1, 0, 1}, entry{2, 0, 2}, entry{3, 0, 3})
	h.List()[0] = entry{9, 9, 9}
	h.Sorted()[0] = entry{9, 9, 9}
	c := h.Copy()
	c.Take()
	h.Remove(3)
	right(t, h, []entry{{1, 0, 1}, {2, 0, 2}})
	right(t, c, []entry{{2, 0, 2}, {3, 0, 3}})
}

func TestAgainstAList(t *testing.T) {
	var h heap.Heap
	var want []entry
	x := uint32(17)
	for i := range 6000 {
		x = x*1664525 + 1013904223
		switch kind := x >> 29; {
		case kind < 4:
			e := entry{int64(x>>8) % 50, uint64(x>>16) % 3, int(x>>4) % 20}
			h.Put(e)
			want = append(want, e)
		case kind < 7:
			e, ok := h.Take()
			first, is := entry{}, len(want) > 0
			if is {
				first = slices.MinFunc(want, order)
				want = slices.Delete(want, slices.Index(want, first), slices.Index(want, first)+1)
			}
			if e != first || ok != is {
				t.Fatal(e, ok, first)
			}
		case i%5 == 0:
			g := int(x>>4) % 20
			n := len(want)
			want = slices.DeleteFunc(want, func(e entry) bool { return e.G == g })
			if h.Remove(g) != n-len(want) {
				t.Fatal("Remove", g)
			}
		}
		if i%7 == 0 {
			right(t, &h, want)
		}
		if e, ok := h.First(); ok != (len(want) > 0) || ok && e != slices.MinFunc(want, order) {
			t.Fatal("First", e)
		}
	}
}
