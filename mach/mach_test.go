package mach_test

import (
	"math"
	"slices"
	"testing"

	"hostler/mach"
	"hostler/section"
	"hostler/ticket"
)

// names are all places' names, by their numbers.
var names = []string{
	"exec", "sched", "one", "local", "global", "spinup", "steal", "release", "drop", "look", "lookglobal", "retake", "spinback", "stop",
	"check", "unpoll", "sleep", "putrest", "putover", "unspin", "dispatch", "load", "claim", "find", "wake", "deliver", "mark", "putone",
	"putnext", "park", "await",
}

func TestNumbers(t *testing.T) {
	for i, p := range []mach.Place{
		mach.Exec, mach.Sched, mach.One, mach.Local, mach.Global, mach.SpinUp, mach.Steal, mach.Release, mach.Drop, mach.Look, mach.LookGlobal,
		mach.Retake, mach.SpinBack, mach.Stop, mach.Check, mach.Unpoll, mach.Sleep, mach.PutRest, mach.PutOver, mach.Unspin, mach.Dispatch,
		mach.Load, mach.Claim, mach.Find, mach.Wake, mach.Deliver, mach.Mark, mach.PutOne, mach.PutNext, mach.Park, mach.Await,
	} {
		if int(p) != i {
			t.Error(i, p)
		}
	}
	if mach.Places != 31 {
		t.Error(mach.Places)
	}
}

func TestFresh(t *testing.T) {
	m := mach.Fresh()
	if m.Place != mach.Sleep || m.P != -1 || m.G != -1 || m.Next != -1 || m.Got != -1 || m.Target != -1 {
		t.Error(m)
	}
	if m.I != 0 || m.Spin || m.In || len(m.Rest) != 0 || m.Back != 0 || m.After != 0 || m.Arg != 0 || m.Section != (section.Section{}) {
		t.Error(m)
	}
}

func TestNames(t *testing.T) {
	for i, want := range names {
		if got := mach.Name(mach.Place(i)); got != want {
			t.Errorf("Name(%d): %q", i, got)
		}
		if p, ok := mach.Named(want); p != mach.Place(i) || !ok {
			t.Errorf("Named(%q): %d, %v", want, p, ok)
		}
	}
	for _, p := range []mach.Place{-1, 31, 32, math.MinInt, math.MaxInt} {
		if got := mach.Name(p); got != "" {
			t.Errorf("Name(%d): %q", p, got)
		}
	}
	for _, name := range []string{"", "Exec", "exec ", "places", "putr", "\xff"} {
		if p, ok := mach.Named(name); p != 0 || ok {
			t.Errorf("Named(%q): %d, %v", name, p, ok)
		}
	}
}

func TestExample(t *testing.T) {
	if got := mach.Lock(mach.Machine{Place: mach.Look, I: 2}, 4); got != 3 {
		t.Error(got)
	}
}

// locks are all places' locks of 5 processors, of a machine that holds 3, at 4.
var locks = []int{
	-1, -1, 0, 4, 0, -1, 3, 0, -1, 5, 0, 0, -1, 0, 6, 0, -1, 4, 0, -1, -1, -1, -1, 0, -1, 6, -1, 0, 4, 6, 6,
}

func TestLockOfEachPlace(t *testing.T) {
	for i, want := range locks {
		if got := mach.Lock(mach.Machine{Place: mach.Place(i), P: 3, I: 4}, 5); got != want {
			t.Errorf("at %s: %d, want %d", names[i], got, want)
		}
		for _, n := range []int{0, -1, math.MinInt} {
			if got := mach.Lock(mach.Machine{Place: mach.Place(i)}, n); got != -1 {
				t.Errorf("at %s, of %d: %d", names[i], n, got)
			}
		}
	}
	for _, p := range []mach.Place{-1, 31, math.MinInt, math.MaxInt} {
		if got := mach.Lock(mach.Machine{Place: p, P: 1, I: 1}, 5); got != -1 {
			t.Errorf("at no place: %d", got)
		}
	}
}

func TestLockOfRings(t *testing.T) {
	for _, c := range []struct {
		place      mach.Place
		p, i, n    int
		want       int
		whatItIsOf string
	}{
		{mach.Local, 0, 0, 1, 1, "the first ring"},
		{mach.Local, 63, -5, 64, 64, "the last ring, whatever I is"},
		{mach.Local, -1, 0, 4, -1, "no ring"},
		{mach.Local, 4, 0, 4, -1, "no ring"},
		{mach.PutRest, math.MinInt, 0, 4, -1, "no ring"},
		{mach.PutNext, math.MaxInt, 0, 4, -1, "no ring"},
		{mach.Steal, 1, 0, 4, 2, "its own ring"},
		{mach.Steal, 1, 2, 4, 4, "the last ring"},
		{mach.Steal, 1, 3, 4, 1, "round behind the last ring"},
		{mach.Steal, 1, 4, 4, 2, "once round"},
		{mach.Steal, 3, 11, 4, 3, "twice round"},
		{mach.Steal, 0, 5, 1, 1, "the only ring"},
		{mach.Steal, 1, -1, 4, -1, "I below 0"},
		{mach.Steal, 1, math.MinInt, 4, -1, "I below 0"},
		{mach.Steal, -1, 2, 4, -1, "P below 0"},
		{mach.Steal, 4, 2, 4, -1, "P not below n"},
		{mach.Steal, 3, math.MaxInt, 4, (3+math.MaxInt%4)%4 + 1, "the greatest I"},
		{mach.Look, -1, 0, 4, 1, "the first ring, without P"},
		{mach.Look, 9, 3, 4, 4, "the last ring, whatever P is"},
		{mach.Look, 0, 4, 4, -1, "I not below n"},
		{mach.Look, 0, -1, 4, -1, "I below 0"},
		{mach.Look, 0, math.MaxInt, 4, -1, "I not below n"},
		{mach.One, -1, -1, 4, 0, "the scheduler's"},
		{mach.Check, -1, -1, 1, 2, "the sources'"},
	} {
		if got := mach.Lock(mach.Machine{Place: c.place, P: c.p, I: c.i}, c.n); got != c.want {
			t.Errorf("at %s, P %d, I %d, of %d: %d, want %d (%s)", mach.Name(c.place), c.p, c.i, c.n, got, c.want, c.whatItIsOf)
		}
	}
	const most = math.MaxInt
	for _, c := range []struct{ p, i, want int }{{most - 2, 1, most}, {most - 2, 2, 1}, {most - 2, most - 1, most - 2}, {0, most, 1}} {
		if got := mach.Lock(mach.Machine{Place: mach.Steal, P: c.p, I: c.i}, most); got != c.want {
			t.Errorf("of the most: P %d, I %d: %d, want %d", c.p, c.i, got, c.want)
		}
	}
}

func TestCopyIsApart(t *testing.T) {
	m := mach.Machine{
		Place: mach.Find, P: 1, G: 2, Next: 3, Got: 4, Target: 5, I: 6, Spin: true, In: true, Rest: []int{7, 8},
		Back: mach.Dispatch, After: mach.One, Arg: 9, Section: section.Begin(ticket.Lock{Next: 2, Serving: 3}),
	}
	c := mach.Copy(m)
	if !slices.Equal(c.Rest, m.Rest) {
		t.Error(c.Rest)
	}
	c.Rest[0] = 99
	if m.Rest[0] != 7 {
		t.Error("the Rest isn't apart")
	}
	if c.Place != m.Place || c.P != 1 || c.G != 2 || c.Next != 3 || c.Got != 4 || c.Target != 5 || c.I != 6 || !c.Spin || !c.In ||
		c.Back != m.Back || c.After != m.After || c.Arg != 9 || c.Section != m.Section {
		t.Error(c)
	}
	if l := mach.Copy(mach.Machine{}).Rest; len(l) != 0 {
		t.Error(l)
	}
}

func TestBusy(t *testing.T) {
	for i, name := range names {
		if got := mach.Busy(mach.Machine{Place: mach.Place(i), G: 1, P: 1}); got != (name != "exec" && name != "sleep") {
			t.Errorf("at %s: %v", name, got)
		}
	}
	if mach.Busy(mach.Fresh()) {
		t.Error("Fresh is busy")
	}
}
