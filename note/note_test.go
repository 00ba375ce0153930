package note_test

import (
	"math"
	"testing"

	"hostler/cell"
	"hostler/note"
)

func TestNumbers(t *testing.T) {
	if note.Forever != 1<<63-1 || note.Asleep != 0 || note.Woken != 1 || note.Late != 2 {
		t.Error(note.Forever, note.Asleep, note.Woken, note.Late)
	}
}

func TestExample(t *testing.T) {
	m, s := cell.New(1), note.Sleeper{Note: 0, Until: note.Forever}
	if !note.Wake(m, 0) || note.Wake(m, 0) {
		t.Error("Wake, Wake aren't true, false")
	}
	if s.Step(m, 0) != note.Woken || s.Step(m, 0) != note.Asleep {
		t.Error("Step, Step aren't Woken, Asleep")
	}
}

func TestClearWakeIs(t *testing.T) {
	m := cell.New(3)
	if note.Is(m, 1) {
		t.Error("woken at first")
	}
	if !note.Wake(m, 1) || !note.Is(m, 1) || m.Load(1) != 1 {
		t.Error("not woken")
	}
	if note.Wake(m, 1) || !note.Is(m, 1) || m.Load(1) != 1 {
		t.Error("woken twice")
	}
	if !note.Clear(m, 1) || note.Is(m, 1) || m.Load(1) != 0 {
		t.Error("not clear")
	}
	if !note.Clear(m, 1) || note.Is(m, 1) {
		t.Error("Clear of what is clear")
	}
	if !note.Wake(m, 1) {
		t.Error("not woken again")
	}
	if m.Load(0) != 0 || m.Load(2) != 0 {
		t.Error("another word changed")
	}
}

func TestNoSuchWord(t *testing.T) {
	m := cell.New(2)
	for _, i := range []int{math.MinInt, -1, 2, math.MaxInt} {
		if note.Clear(m, i) || note.Wake(m, i) || note.Is(m, i) {
			t.Errorf("note %d is there", i)
		}
	}
	if m.Count() != 0 {
		t.Error("an access")
	}
}

func TestOneAccessEach(t *testing.T) {
	m := cell.New(1)
	steps := []func(){
		func() { note.Clear(m, 0) },
		func() { note.Is(m, 0) },
		func() { note.Sleeper{Until: note.Forever}.Step(m, 9) },
		func() { note.Sleeper{Until: 3}.Step(m, 9) },
		func() { note.Wake(m, 0) },
		func() { note.Wake(m, 0) },
		func() { note.Is(m, 0) },
		func() { note.Sleeper{Until: 3}.Step(m, 9) },
	}
	for i, do := range steps {
		do()
		if m.Count() != i+1 {
			t.Fatalf("step %d: %d accesses", i, m.Count())
		}
	}
	note.Sleeper{Until: 3}.Due(9)
	if m.Count() != len(steps) {
		t.Error("Due is an access")
	}
}

func TestDue(t *testing.T) {
	for _, c := range []struct {
		until, now int64
		want       bool
	}{
		{5, 4, false}, {5, 5, true}, {5, 6, true}, {0, -1, false}, {0, 0, true},
		{math.MinInt64, math.MinInt64, true}, {-3, math.MinInt64, false}, {5, math.MaxInt64, true},
		{math.MaxInt64 - 1, math.MaxInt64 - 2, false}, {math.MaxInt64 - 1, math.MaxInt64, true},
		{note.Forever, 0, false}, {note.Forever, math.MaxInt64, false},
	} {
		if got := (note.Sleeper{Note: -1, Until: c.until}).Due(c.now); got != c.want {
			t.Errorf("until %d, now %d: %v", c.until, c.now, got)
		}
	}
}

func TestStep(t *testing.T) {
	m := cell.New(2)
	s := note.Sleeper{Note: 1, Until: 10}
	if s.Step(m, 9) != note.Asleep || s.Step(m, 10) != note.Late || s.Step(m, 11) != note.Late {
		t.Error("of a clear note")
	}
	note.Wake(m, 1)
	if s.Step(m, 9) != note.Woken || note.Is(m, 1) || s.Step(m, 9) != note.Asleep {
		t.Error("woken ahead of its time")
	}
	note.Wake(m, 1)
	if s.Step(m, 11) != note.Woken || note.Is(m, 1) || s.Step(m, 11) != note.Late {
		t.Error("woken, and late")
	}
	note.Wake(m, 0)
	if s.Step(m, 0) != note.Asleep || !note.Is(m, 0) {
		t.Error("woken by another one's note")
	}
	for _, now := range []int64{math.MinInt64, 0, math.MaxInt64} {
		if (note.Sleeper{Note: 1, Until: note.Forever}).Step(m, now) != note.Asleep {
			t.Error("late, though for ever")
		}
	}
}

func TestWokenOnceHoweverOften(t *testing.T) {
	m, s, told, was := cell.New(1), note.Sleeper{Note: 0, Until: note.Forever}, 0, 0
	for round := range 20 {
		for range round % 4 {
			if note.Wake(m, 0) {
				was++
			}
		}
		for range 3 {
			if s.Step(m, int64(round)) == note.Woken {
				told++
			}
		}
	}
	if told != 15 || was != 15 {
		t.Errorf("%d were true, %d told Woken", was, told)
	}
}
