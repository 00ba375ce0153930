package batch_test

import (
	"math"
	"slices"
	"testing"

	"hostler/batch"
)

func is(t *testing.T, b *batch.Batch, want ...int) {
	t.Helper()
	if got := b.List(); !slices.Equal(got, want) || b.Len() != len(want) {
		t.Errorf("it has %v, Len %d, want %v", got, b.Len(), want)
	}
}

func TestExample(t *testing.T) {
	b := batch.Of(1, 2, 3)
	is(t, b.Half(), 1, 2)
	if g, ok := b.Take(); g != 3 || !ok {
		t.Error(g, ok)
	}
	is(t, b)
}

func TestOfAndTheZeroBatch(t *testing.T) {
	is(t, batch.Of())
	is(t, batch.Of(4, -1, math.MaxInt, math.MinInt), 4, -1, math.MaxInt, math.MinInt)
	var b batch.Batch
	is(t, &b)
	if g, ok := b.Take(); g != 0 || ok {
		t.Error(g, ok)
	}
	if len(b.TakeMost(3)) != 0 || b.Half().Len() != 0 || b.Has(0) || b.Copy().Len() != 0 {
		t.Error("the zero batch has some")
	}
	b.Put(5)
	b.Front(6)
	is(t, &b, 6, 5)
}

func TestPutBehindFrontAhead(t *testing.T) {
	b := batch.Of(1)
	b.Put(2, 3)
	b.Put()
	b.Put(4)
	is(t, b, 1, 2, 3, 4)
	b.Front(7, 8)
	b.Front()
	b.Front(9)
	is(t, b, 9, 7, 8, 1, 2, 3, 4)
	b.Put(5)
	is(t, b, 9, 7, 8, 1, 2, 3, 4, 5)
}

func TestFrontBehindTakes(t *testing.T) {
	b := batch.Of(1, 2, 3, 4, 5, 6)
	b.TakeMost(2)
	b.Front(7)
	is(t, b, 7, 3, 4, 5, 6)
	b.Front(8, 9)
	is(t, b, 8, 9, 7, 3, 4, 5, 6)
}

func TestTakeIsTheFirst(t *testing.T) {
	b := batch.Of(3, 0, 3, 2)
	for _, want := range []int{3, 0, 3, 2} {
		if g, ok := b.Take(); g != want || !ok {
			t.Errorf("%d, %v, want %d", g, ok, want)
		}
	}
	for range 2 {
		if g, ok := b.Take(); g != 0 || ok {
			t.Error(g, ok)
		}
	}
	b.Put(9)
	is(t, b, 9)
}

func TestTakeMost(t *testing.T) {
	for _, c := range []struct {
		n          int
		take, left []int
	}{
		{math.MinInt, nil, []int{1, 2, 3}}, {-1, nil, []int{1, 2, 3}}, {0, nil, []int{1, 2, 3}},
		{1, []int{1}, []int{2, 3}}, {2, []int{1, 2}, []int{3}}, {3, []int{1, 2, 3}, nil},
		{4, []int{1, 2, 3}, nil}, {math.MaxInt, []int{1, 2, 3}, nil},
	} {
		b := batch.Of(1, 2, 3)
		if got := b.TakeMost(c.n); !slices.Equal(got, c.take) {
			t.Errorf("TakeMost(%d): %v", c.n, got)
		}
		is(t, b, c.left...)
	}
}

func TestHalfIsRoundedUp(t *testing.T) {
	for n := range 9 {
		var l []int
		for i := range n {
			l = append(l, i+10)
		}
		b := batch.Of(l...)
		h := b.Half()
		is(t, h, l[:(n+1)/2]...)
		is(t, b, l[(n+1)/2:]...)
		h.Put(99)
		b.Put(98)
		if h.Has(98) || b.Has(99) {
			t.Error("the half isn't apart")
		}
	}
}

func TestHas(t *testing.T) {
	b := batch.Of(1, 2, 5)
	b.Take()
	if b.Has(1) || !b.Has(2) || !b.Has(5) || b.Has(3) || b.Has(0) {
		t.Error(b.List())
	}
	b.TakeMost(2)
	if b.Has(2) || b.Has(5) {
		t.Error("it has what was taken")
	}
}

func TestNothingIsShared(t *testing.T) {
	l := make([]int, 3, 10)
	copy(l, []int{1, 2, 3})
	b := batch.Of(l...)
	b.Put(4)
	b.Put(l...)
	b.Front(l...)
	l[0], l[1] = 8, 9
	is(t, b, 1, 2, 3, 1, 2, 3, 4, 1, 2, 3)
	if !slices.Equal(l[:5], []int{8, 9, 3, 0, 0}) {
		t.Error("what was handed in is changed", l[:5])
	}
	b.List()[0] = 77
	most := b.TakeMost(2)
	most = append(most, 66)
	most[0] = 55
	is(t, b, 3, 1, 2, 3, 4, 1, 2, 3)
	c := b.Copy()
	is(t, c, 3, 1, 2, 3, 4, 1, 2, 3)
	c.Take()
	c.Put(5)
	b.Front(6)
	is(t, c, 1, 2, 3, 4, 1, 2, 3, 5)
	is(t, b, 6, 3, 1, 2, 3, 4, 1, 2, 3)
}

func TestWhatIsPutComesOutInThatOrder(t *testing.T) {
	var b batch.Batch
	var want []int
	x, n := uint32(3), 0
	for range 20000 {
		x = x*1664525 + 1013904223
		k := int(x>>8) % 5
		switch x >> 29 {
		case 0, 1, 2:
			for range k {
				n++
				b.Put(n)
				want = append(want, n)
			}
		case 3:
			n += 2
			b.Front(n-1, n)
			want = append([]int{n - 1, n}, want...)
		case 4, 5:
			k = min(k, len(want))
			if got := b.TakeMost(k); !slices.Equal(got, want[:k]) {
				t.Fatal(got, want[:k])
			}
			want = want[k:]
		case 6:
			if g, ok := b.Take(); ok != (len(want) > 0) || ok && g != want[0] {
				t.Fatal(g, ok)
			} else if ok {
				want = want[1:]
			}
		default:
			if len(want) > 40 {
				half := (len(want) + 1) / 2
				is(t, b.Half(), want[:half]...)
				want = want[half:]
			}
		}
	}
	is(t, &b, want...)
}
