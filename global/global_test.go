package global_test

import (
	"math"
	"slices"
	"testing"

	"hostler/global"
)

// of is a queue for so many processors, of 0 to n - 1.
func of(processors, n int) *global.Queue {
	q := global.New(processors)
	for i := range n {
		q.Put(i)
	}
	return q
}

func is(t *testing.T, q *global.Queue, want ...int) {
	t.Helper()
	if got := q.List(); !slices.Equal(got, want) || q.Len() != len(want) {
		t.Errorf("it has %v, Len %d, want %v", got, q.Len(), want)
	}
}

func TestExample(t *testing.T) {
	if s := of(2, 5).Share(); s != 3 {
		t.Error(s)
	}
}

func TestNewIsEmpty(t *testing.T) {
	q := global.New(4)
	is(t, q)
	if g, ok := q.One(); g != 0 || ok || q.Share() != 0 || len(q.Take()) != 0 || q.Has(0) {
		t.Error("an empty one has some")
	}
}

func TestShare(t *testing.T) {
	for _, c := range []struct{ processors, n, want int }{
		{1, 0, 0}, {1, 1, 1}, {1, 2, 2}, {1, 127, 127}, {1, 128, 128}, {1, 129, 128}, {1, 1000, 128},
		{2, 1, 1}, {2, 2, 2}, {2, 3, 2}, {2, 4, 3}, {2, 253, 127}, {2, 254, 128}, {2, 255, 128}, {2, 256, 128},
		{3, 2, 1}, {3, 3, 2}, {64, 63, 1}, {64, 64, 2}, {64, 128, 3},
		{0, 10, 10}, {-1, 10, 10}, {math.MinInt, 10, 10},
		{65, 64, 2}, {65, 128, 3}, {1000, 64, 2}, {math.MaxInt, 640, 11},
	} {
		q := of(c.processors, c.n)
		if q.Share() != c.want {
			t.Errorf("of %d processors, %d: Share %d, want %d", c.processors, c.n, q.Share(), c.want)
		}
		l := q.Take()
		if len(l) != c.want || q.Len() != c.n-c.want {
			t.Errorf("of %d processors, %d: %d taken, %d left", c.processors, c.n, len(l), q.Len())
		}
		for i, g := range l {
			if g != i {
				t.Errorf("the %d-th one taken: %d", i, g)
			}
		}
		if q.Len() > 0 && q.List()[0] != c.want {
			t.Errorf("left: %v", q.List())
		}
	}
}

func TestPutOneHas(t *testing.T) {
	q := global.New(2)
	q.Put()
	q.Put(3, 1)
	q.Put(2)
	is(t, q, 3, 1, 2)
	if !q.Has(3) || !q.Has(2) || q.Has(0) || q.Has(-1) {
		t.Error("Has")
	}
	for _, want := range []int{3, 1, 2} {
		if g, ok := q.One(); g != want || !ok || q.Has(want) {
			t.Errorf("One: %d, %v, want %d", g, ok, want)
		}
	}
	if g, ok := q.One(); g != 0 || ok {
		t.Error(g, ok)
	}
}

func TestNothingIsShared(t *testing.T) {
	q := global.New(1)
	l := make([]int, 2, 8)
	l[0], l[1] = 1, 2
	q.Put(l...)
	q.Put(3)
	l[0] = 9
	if l[:3][2] != 0 {
		t.Error("the spare room of what was handed in is changed")
	}
	q.List()[1] = 9
	is(t, q, 1, 2, 3)
	c := q.Copy()
	is(t, c, 1, 2, 3)
	c.One()
	q.Put(4)
	is(t, c, 2, 3)
	is(t, q, 1, 2, 3, 4)
	big := of(3, 8)
	if big.Copy().Share() != 3 {
		t.Error("the copy is for others")
	}
	taken := big.Take()
	taken = append(taken, 77)
	taken[0] = 78
	is(t, big, 3, 4, 5, 6, 7)
}

func TestWhatIsPutComesOutInThatOrder(t *testing.T) {
	q, x, n, at := global.New(3), uint32(5), 0, 0
	for range 4000 {
		x = x*1664525 + 1013904223
		switch x >> 30 {
		case 0, 1:
			for range int(x>>8) % 4 {
				q.Put(n)
				n++
			}
		case 2:
			if g, ok := q.One(); ok {
				if g != at {
					t.Fatal(g, at)
				}
				at++
			}
		default:
			for _, g := range q.Take() {
				if g != at {
					t.Fatal(g, at)
				}
				at++
			}
		}
		if q.Len() != n-at {
			t.Fatal("Len", q.Len())
		}
	}
}
