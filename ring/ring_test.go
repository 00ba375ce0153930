package ring_test

import (
	"math"
	"slices"
	"testing"

	"hostler/ring"
)

// count is the numbers from a up to b.
func count(a, b int) []int {
	var l []int
	for i := a; i < b; i++ {
		l = append(l, i)
	}
	return l
}

// full is a ring whose row is 0 to 255, turned round by so many places.
func full(by int) *ring.Ring {
	r := ring.New()
	for range by {
		r.Put(-1)
		r.Get()
	}
	r.PutAll(count(0, 256))
	return r
}

// is checks a ring's row, and who is next (-1: nobody).
func is(t *testing.T, r *ring.Ring, next, streak int, row ...int) {
	t.Helper()
	want := slices.Clone(row)
	if next >= 0 {
		want = append(want, next)
	}
	if got := r.List(); !slices.Equal(got, want) || r.Len() != len(want) {
		t.Errorf("List %v, Len %d, want %v", got, r.Len(), want)
	}
	if g, ok := r.Next(); ok != (next >= 0) || ok && g != next || !ok && g != 0 {
		t.Errorf("Next %d, %v, want %d", g, ok, next)
	}
	if r.Streak() != streak {
		t.Errorf("Streak %d, want %d", r.Streak(), streak)
	}
}

func get(t *testing.T, r *ring.Ring, want int) {
	t.Helper()
	if g, ok := r.Get(); g != want || !ok {
		t.Errorf("Get: %d, %v, want %d", g, ok, want)
	}
}

func TestNewIsEmpty(t *testing.T) {
	r := ring.New()
	is(t, r, -1, 0)
	if g, ok := r.Get(); g != 0 || ok {
		t.Error("Get", g, ok)
	}
	if len(r.Steal()) != 0 {
		t.Error("Steal")
	}
	is(t, r, -1, 0)
}

func TestExample(t *testing.T) {
	r := ring.New()
	if len(r.Ready(1)) != 0 || len(r.Put(2)) != 0 {
		t.Error("something is told")
	}
	get(t, r, 1)
	r.Ready(3)
	r.Ready(4)
	is(t, r, 4, 1, 2, 3)
}

func TestPutStandsBehindTheRow(t *testing.T) {
	r := ring.New()
	for _, g := range []int{5, math.MinInt, 0, 5, math.MaxInt} {
		if l := r.Put(g); len(l) != 0 {
			t.Error(l)
		}
	}
	is(t, r, -1, 0, 5, math.MinInt, 0, 5, math.MaxInt)
}

func TestPutIntoAFullRow(t *testing.T) {
	for _, by := range []int{0, 1, 100, 255, 256, 300} {
		r := full(by)
		is(t, r, -1, 0, count(0, 256)...)
		if l := r.Put(999); !slices.Equal(l, append(count(0, 128), 999)) {
			t.Errorf("by %d: told %v", by, l)
		}
		is(t, r, -1, 0, count(128, 256)...)
	}
	r := ring.New()
	for i := range 256 {
		if l := r.Put(i); len(l) != 0 {
			t.Fatalf("of %d: told %v", i, l)
		}
	}
	is(t, r, -1, 0, count(0, 256)...)
}

func TestReadyIsNextAndTheOneThatWasIsPut(t *testing.T) {
	r := ring.New()
	r.Put(1)
	if l := r.Ready(7); len(l) != 0 {
		t.Error(l)
	}
	is(t, r, 7, 0, 1)
	if l := r.Ready(0); len(l) != 0 {
		t.Error(l)
	}
	is(t, r, 0, 0, 1, 7)
	f := full(3)
	if l := f.Ready(500); len(l) != 0 {
		t.Error(l)
	}
	is(t, f, 500, 0, count(0, 256)...)
	if l := f.Ready(501); !slices.Equal(l, append(count(0, 128), 500)) {
		t.Error(l)
	}
	is(t, f, 501, 0, count(128, 256)...)
}

func TestPutAllAsFarAsThereIsRoom(t *testing.T) {
	r := ring.New()
	if l := r.PutAll(nil); len(l) != 0 {
		t.Error(l)
	}
	if l := r.PutAll(count(0, 200)); len(l) != 0 {
		t.Error(l)
	}
	r.Ready(900)
	for range 2 {
		r.Get()
	}
	l := count(200, 300)
	left := r.PutAll(l)
	if !slices.Equal(left, count(257, 300)) {
		t.Error(left)
	}
	is(t, r, -1, 0, count(1, 257)...)
	left[0] = -5
	if l[57] != 257 {
		t.Error("what is told isn't new")
	}
	if left := r.PutAll([]int{1, 2}); !slices.Equal(left, []int{1, 2}) {
		t.Error(left)
	}
	if left := full(0).PutAll(nil); len(left) != 0 {
		t.Error(left)
	}
}

func TestGetOfTheRowInOrder(t *testing.T) {
	r := ring.New()
	r.PutAll([]int{4, 2, 3})
	for _, want := range []int{4, 2, 3} {
		get(t, r, want)
	}
	if g, ok := r.Get(); g != 0 || ok {
		t.Error(g, ok)
	}
}

func TestGetInherits(t *testing.T) {
	r := ring.New()
	r.PutAll([]int{100, 101})
	for i := range 4 {
		r.Ready(i)
		get(t, r, i)
		is(t, r, -1, i+1, 100, 101)
	}
	r.Ready(4)
	get(t, r, 100)
	is(t, r, -1, 0, 101, 4)
	r.Ready(5)
	get(t, r, 5)
	is(t, r, -1, 1, 101, 4)
	get(t, r, 101)
	is(t, r, -1, 0, 4)
}

func TestGetOfNextAloneIsNoStreak(t *testing.T) {
	r := ring.New()
	for i := range 9 {
		r.Ready(i)
		get(t, r, i)
		is(t, r, -1, 0)
	}
	r.Put(100)
	for i := range 4 {
		r.Ready(i)
		get(t, r, i)
	}
	r.Steal()
	is(t, r, -1, 4)
	r.Ready(8)
	get(t, r, 8)
	is(t, r, -1, 0)
}

func TestGetOfAFullRow(t *testing.T) {
	r := full(7)
	for i := range 4 {
		r.Ready(900 + i)
		get(t, r, 900+i)
	}
	r.Ready(904)
	get(t, r, 0)
	is(t, r, -1, 0, append(count(1, 256), 904)...)
}

func TestGetOfNothingKeepsTheStreak(t *testing.T) {
	r := ring.New()
	r.PutAll([]int{8, 9})
	r.Ready(1)
	get(t, r, 1)
	r.PutAll(nil)
	if l := r.Steal(); !slices.Equal(l, []int{8}) {
		t.Error(l)
	}
	if l := r.Steal(); !slices.Equal(l, []int{9}) {
		t.Error(l)
	}
	is(t, r, -1, 1)
	if g, ok := r.Get(); g != 0 || ok {
		t.Error(g, ok)
	}
	is(t, r, -1, 1)
}

func TestStealIsTheFirstHalfRoundedUp(t *testing.T) {
	for n := 1; n <= 256; n += 5 {
		r := full(n)
		for range 256 - n {
			r.Get()
		}
		r.Ready(700)
		from := 256 - n
		if l := r.Steal(); !slices.Equal(l, count(from, from+(n+1)/2)) {
			t.Errorf("of %d: %v", n, l)
		}
		is(t, r, 700, 0, count(from+(n+1)/2, 256)...)
	}
}

func TestStealOfNextAlone(t *testing.T) {
	r := ring.New()
	r.Put(9)
	r.Ready(1)
	get(t, r, 1)
	r.Ready(0)
	is(t, r, 0, 1, 9)
	if l := r.Steal(); !slices.Equal(l, []int{9}) {
		t.Error(l)
	}
	is(t, r, 0, 1)
	if l := r.Steal(); !slices.Equal(l, []int{0}) {
		t.Error(l)
	}
	is(t, r, -1, 0)
	if l := r.Steal(); len(l) != 0 {
		t.Error(l)
	}
}

func TestNothingIsShared(t *testing.T) {
	r := ring.New()
	l := []int{1, 2, 3}
	r.PutAll(l)
	l[0] = 9
	r.List()[1] = 9
	is(t, r, -1, 0, 1, 2, 3)
	r.Ready(4)
	c := r.Copy()
	is(t, c, 4, 0, 1, 2, 3)
	get(t, c, 4)
	c.Put(6)
	r.Put(5)
	is(t, c, -1, 1, 1, 2, 3, 6)
	is(t, r, 4, 0, 1, 2, 3, 5)
	stolen := r.Steal()
	stolen = append(stolen, 8)
	stolen[0] = 8
	is(t, r, 4, 0, 3, 5)
}

func TestNoneIsLostOrThereTwice(t *testing.T) {
	r, in, n, x := ring.New(), map[int]bool{}, 0, uint32(11)
	out := func(l ...int) {
		for _, g := range l {
			if !in[g] {
				t.Fatalf("%d isn't in", g)
			}
			delete(in, g)
		}
	}
	for i := range 30000 {
		x = x*1664525 + 1013904223
		kind := x >> 29
		if i/3000%2 == 0 {
			kind = min(kind, 4)
		}
		switch kind {
		case 0, 1:
			n++
			in[n] = true
			out(r.Put(n)...)
		case 2:
			n++
			in[n] = true
			out(r.Ready(n)...)
		case 3:
			l := count(n+1, n+1+int(x>>8)%9)
			n += len(l)
			for _, g := range l {
				in[g] = true
			}
			out(r.PutAll(l)...)
		case 4:
			if x>>28&1 == 1 {
				out(r.Steal()...)
			}
		default:
			if g, ok := r.Get(); ok {
				out(g)
			}
		}
		if r.Len() != len(in) || r.Len() > 257 || r.Streak() > 4 {
			t.Fatal(r.Len(), len(in), r.Streak())
		}
	}
	out(r.List()...)
	if len(in) != 0 {
		t.Error("lost", in)
	}
}
