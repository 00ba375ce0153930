package ticket_test

import (
	"math"
	"slices"
	"testing"

	"hostler/cell"
	"hostler/ticket"
)

// counted says how many accesses something was.
func counted(m *cell.Memory, do func()) int {
	from := m.Count()
	do()
	return m.Count() - from
}

func TestExample(t *testing.T) {
	m, k := cell.New(2), ticket.Lock{Next: 0, Serving: 1}
	if k.Take(m) != 0 || k.Take(m) != 1 {
		t.Error("tickets aren't 0, 1")
	}
	if k.Held(m, 1) || !k.Held(m, 0) {
		t.Error("1 holds the lock ahead of 0")
	}
	if !k.Free(m, 0) || !k.Held(m, 1) || k.Held(m, 0) {
		t.Error("1 doesn't hold the lock behind Free(0)")
	}
}

func TestTakeIsWhatNextWas(t *testing.T) {
	m, k := cell.New(5), ticket.Lock{Next: 3, Serving: 1}
	for i := range uint64(5) {
		if x := k.Take(m); x != i || m.Load(3) != i+1 {
			t.Errorf("ticket %d: %d", i, x)
		}
	}
	for _, i := range []int{0, 1, 2, 4} {
		if m.Load(i) != 0 {
			t.Errorf("word %d changed", i)
		}
	}
}

func TestFreeOnlyWhoHolds(t *testing.T) {
	m, k := cell.New(2), ticket.Lock{Next: 1, Serving: 0}
	k.Take(m)
	k.Take(m)
	for _, x := range []uint64{1, 2, math.MaxUint64} {
		if k.Free(m, x) || m.Load(0) != 0 || m.Load(1) != 2 {
			t.Errorf("%d was freed", x)
		}
	}
	if !k.Free(m, 0) || m.Load(0) != 1 || m.Load(1) != 2 {
		t.Error("0 wasn't freed")
	}
	if k.Free(m, 0) || m.Load(0) != 1 {
		t.Error("0 was freed twice")
	}
}

func TestAhead(t *testing.T) {
	m, k := cell.New(2), ticket.Lock{Next: 0, Serving: 1}
	for i := range uint64(4) {
		k.Take(m)
		if k.Ahead(m, i) != i {
			t.Errorf("ahead of %d: %d", i, k.Ahead(m, i))
		}
	}
	k.Free(m, 0)
	k.Free(m, 1)
	for ticket, want := range map[uint64]uint64{2: 0, 3: 1, 9: 7, 1: math.MaxUint64} {
		if k.Ahead(m, ticket) != want {
			t.Errorf("ahead of %d: %d", ticket, k.Ahead(m, ticket))
		}
	}
}

func TestBusy(t *testing.T) {
	m, k := cell.New(2), ticket.Lock{Next: 0, Serving: 1}
	if k.Busy(m) {
		t.Error("busy at first")
	}
	k.Take(m)
	k.Take(m)
	if !k.Busy(m) {
		t.Error("not busy with two tickets")
	}
	k.Free(m, 0)
	if !k.Busy(m) {
		t.Error("not busy with one ticket")
	}
	k.Free(m, 1)
	if k.Busy(m) {
		t.Error("busy behind all")
	}
}

func TestTicketsGoRound(t *testing.T) {
	m, k := cell.New(2), ticket.Lock{Next: 0, Serving: 1}
	m.Store(0, math.MaxUint64)
	m.Store(1, math.MaxUint64)
	last, first := k.Take(m), k.Take(m)
	if last != math.MaxUint64 || first != 0 {
		t.Error("tickets", last, first)
	}
	if !k.Busy(m) || !k.Held(m, last) || k.Held(m, first) || k.Ahead(m, first) != 1 {
		t.Error("the last one doesn't hold it")
	}
	if !k.Free(m, last) || m.Load(1) != 0 || !k.Held(m, first) || !k.Free(m, first) || k.Busy(m) {
		t.Error("the first one doesn't hold it")
	}
}

func TestAccesses(t *testing.T) {
	m, k := cell.New(2), ticket.Lock{Next: 0, Serving: 1}
	for _, c := range []struct {
		name string
		want int
		do   func()
	}{
		{"Take", 1, func() { k.Take(m) }},
		{"Held", 1, func() { k.Held(m, 0) }},
		{"Held of another one", 1, func() { k.Held(m, 5) }},
		{"Ahead", 1, func() { k.Ahead(m, 3) }},
		{"Busy", 2, func() { k.Busy(m) }},
		{"Free of another one", 1, func() { k.Free(m, 1) }},
		{"Free", 2, func() { k.Free(m, 0) }},
		{"Busy of none", 2, func() { k.Busy(m) }},
	} {
		if got := counted(m, c.do); got != c.want {
			t.Errorf("%s: %d accesses, want %d", c.name, got, c.want)
		}
	}
}

func TestHeldInTheOrderOfTickets(t *testing.T) {
	m, k, x := cell.New(2), ticket.Lock{Next: 0, Serving: 1}, uint32(7)
	var waiting, held []uint64
	for range 3000 {
		x = x*1664525 + 1013904223
		if x>>30 != 0 && len(waiting) < 6 || len(waiting) == 0 {
			waiting = append(waiting, k.Take(m))
			continue
		}
		holders := 0
		for _, w := range waiting {
			if k.Held(m, w) {
				holders++
			}
		}
		if holders != 1 {
			t.Fatalf("%d hold it", holders)
		}
		at := int(x>>8) % len(waiting)
		if k.Free(m, waiting[at]) {
			held = append(held, waiting[at])
			waiting = slices.Delete(waiting, at, at+1)
		}
	}
	for i, h := range held {
		if h != uint64(i) {
			t.Fatalf("ticket %d held it as the %d-th one", h, i)
		}
	}
	if len(held) < 100 {
		t.Error("few held it:", len(held))
	}
}
