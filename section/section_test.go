package section_test

import (
	"math"
	"slices"
	"testing"

	"hostler/cell"
	"hostler/section"
	"hostler/ticket"
)

var lock = ticket.Lock{Next: 1, Serving: 2}

// never goes on never.
func never(int) bool { return false }

func TestNumbers(t *testing.T) {
	if section.Take != 0 || section.Wait != 1 || section.Do != 2 || section.Free != 3 || section.Over != 4 {
		t.Error("the numbers of stages")
	}
}

func TestBegin(t *testing.T) {
	if s := section.Begin(lock); s != (section.Section{Lock: lock, Stage: section.Take}) || s.Holds() || s.Waits() {
		t.Error(s)
	}
}

func TestExample(t *testing.T) {
	m, s := cell.New(3), section.Begin(lock)
	for i, want := range []bool{false, false, false, true} {
		if s.Step(m, never) != want {
			t.Errorf("step %d isn't %v", i, want)
		}
	}
	if s.Stage != section.Over || lock.Busy(m) {
		t.Error(s)
	}
}

func TestStagesAndAccesses(t *testing.T) {
	m, s := cell.New(3), section.Begin(lock)
	lock.Take(m)
	lock.Free(m, lock.Take(m)-1)
	var told []int
	do := func(times int) bool {
		told = append(told, times)
		return times < 2
	}
	for i, want := range []struct {
		stage, times, accesses int
		over                   bool
	}{
		{section.Wait, 0, 1, false},
		{section.Wait, 0, 1, false},
		{section.Wait, 0, 1, false},
		{section.Do, 0, 1, false},
		{section.Do, 1, 0, false},
		{section.Do, 2, 0, false},
		{section.Free, 3, 0, false},
		{section.Over, 3, 2, true},
		{section.Over, 3, 0, true},
		{section.Over, 3, 0, true},
	} {
		if i == 3 {
			lock.Free(m, 1)
		}
		was, waits := m.Count(), s.Waits()
		over := s.Step(m, do)
		if over != want.over || s.Stage != want.stage || s.Times != want.times || m.Count()-was != want.accesses {
			t.Errorf("step %d: %v, %v, %d accesses, want %v", i, over, s, m.Count()-was, want)
		}
		if s.Ticket != 2 || s.Lock != lock {
			t.Errorf("step %d: ticket %d", i, s.Ticket)
		}
		if s.Holds() != (s.Stage == section.Do || s.Stage == section.Free) || s.Waits() != (s.Stage == section.Wait) || waits && i > 3 {
			t.Errorf("step %d: Holds %v, Waits %v", i, s.Holds(), s.Waits())
		}
	}
	if !slices.Equal(told, []int{0, 1, 2}) {
		t.Error(told)
	}
	if m.Load(1) != 3 || m.Load(2) != 3 || m.Load(0) != 0 {
		t.Error("the lock isn't freed")
	}
}

func TestNilGoesOnNever(t *testing.T) {
	m, s := cell.New(3), section.Begin(lock)
	for i, want := range []int{section.Wait, section.Do, section.Free, section.Over} {
		if s.Step(m, nil) != (want == section.Over) || s.Stage != want {
			t.Errorf("step %d: %v", i, s)
		}
	}
	if s.Times != 1 {
		t.Error(s.Times)
	}
}

func TestAnotherStage(t *testing.T) {
	for _, stage := range []int{-1, 5, math.MinInt, math.MaxInt} {
		m, s := cell.New(3), section.Section{Lock: lock, Stage: stage, Ticket: 0, Times: 4}
		was := s
		if s.Step(m, func(int) bool { t.Error("it does"); return true }) || s != was || m.Count() != 0 || s.Holds() || s.Waits() {
			t.Errorf("stage %d: %v", stage, s)
		}
	}
}

func TestTimesGoOn(t *testing.T) {
	m, s, told := cell.New(3), section.Section{Lock: lock, Stage: section.Do, Times: 7}, -1
	s.Step(m, func(times int) bool { told = times; return true })
	if told != 7 || s.Times != 8 || s.Stage != section.Do {
		t.Error(told, s)
	}
}

func TestAtMostOneHoldsInTheOrderOfTickets(t *testing.T) {
	for seed := range uint32(40) {
		m, x := cell.New(3), seed
		var sections [5]section.Section
		var took, did []int
		over := 0
		for i := range sections {
			sections[i] = section.Begin(lock)
		}
		for range 400 {
			x = x*1664525 + 1013904223
			i := int(x>>8) % len(sections)
			s := &sections[i]
			was := s.Stage
			s.Step(m, func(times int) bool {
				if times == 0 {
					did = append(did, i)
				}
				return times < i
			})
			switch {
			case was == section.Take:
				took = append(took, i)
			case s.Stage == section.Over && was == section.Free && x>>31 == 1:
				sections[i] = section.Begin(lock)
				over++
			}
			holds := 0
			for i := range sections {
				if sections[i].Holds() {
					holds++
				}
			}
			if holds > 1 {
				t.Fatalf("seed %d: %d hold the lock", seed, holds)
			}
		}
		if !slices.Equal(did, took[:len(did)]) {
			t.Fatalf("seed %d: they took %v, did %v", seed, took, did)
		}
		for range 40 {
			for i := range sections {
				sections[i].Step(m, never)
			}
		}
		for i := range sections {
			if sections[i].Stage != section.Over {
				t.Errorf("seed %d: who waits doesn't come to do: %v", seed, sections[i])
			}
		}
	}
}
