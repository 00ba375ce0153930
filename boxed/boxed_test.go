package boxed_test

import (
	"errors"
	"maps"
	"math"
	"runtime"
	"slices"
	"testing"

	"hostler/api"
	"hostler/boxed"
	"hostler/event"
	"hostler/glyph"
	"hostler/world"
)

// Types that are like others, and aren't them.
type (
	number  int
	letters string
	letter  rune
	config  world.Config
	step    world.Step
	happens event.Event
)

// wrong is an error of a type of its own.
type wrong int

func (w wrong) Error() string { return "wrong" }

// pointed is one whose pointer is an error.
type pointed struct{}

func (p *pointed) Error() string { return "pointed" }

var (
	aConfig = world.Config{P: 2, M: 3, G: 4}
	aStep   = world.Step{Kind: world.Tick, Act: 2, A: 3, X: 4, D: 5}
	anEvent = event.Event{Kind: event.Wait, G: 1, M: 2, P: 3, Value: 4}
)

// things are some of each kind.
var things = map[string][]any{
	"none":    {nil, error(nil)},
	"config":  {aConfig, world.Config{}},
	"step":    {aStep, world.Step{}},
	"event":   {anEvent, event.Event{}},
	"machine": {0, 7, -1, math.MaxInt},
	"rune":    {'a', rune(0), rune(-1), int32(0xD800)},
	"text":    {"", "+0", "\xff"},
	"error":   {errors.New("x"), wrong(3), (*pointed)(nil), &pointed{}},
	"other": {
		true, 1.5, complex(1, 2), uint(1), int64(1), int8(1), byte('a'), uint32('a'), uintptr(1), []any{}, []byte("x"), []rune("x"), map[string]int{},
		number(1), letters("x"), letter('x'), config(aConfig), step(aStep), happens(anEvent), &aConfig, &aStep, &anEvent, struct{}{}, [1]int{},
		new(int), new(string), pointed{}, event.Wait, api.ErrArg, func() {}, (*world.World)(nil), make(chan int), []world.Step{},
	},
}

func TestKind(t *testing.T) {
	for want, l := range things {
		for _, x := range l {
			if got := boxed.Kind(x); got != want {
				t.Errorf("Kind(%#v): %q, want %q", x, got, want)
			}
		}
	}
}

func TestStepEventConfig(t *testing.T) {
	for kind, l := range things {
		for _, x := range l {
			s, isStep := boxed.Step(x)
			e, isEvent := boxed.Event(x)
			c, isConfig := boxed.Config(x)
			if isStep != (kind == "step") || isStep && any(s) != x || !isStep && s != (world.Step{}) {
				t.Errorf("Step(%#v): %v, %v", x, s, isStep)
			}
			if isEvent != (kind == "event") || isEvent && any(e) != x || !isEvent && e != (event.Event{}) {
				t.Errorf("Event(%#v): %v, %v", x, e, isEvent)
			}
			if isConfig != (kind == "config") || isConfig && any(c) != x || !isConfig && c != (world.Config{}) {
				t.Errorf("Config(%#v): %v, %v", x, c, isConfig)
			}
		}
	}
}

func TestMustStep(t *testing.T) {
	must := func(x any) (s world.Step, panicked any) {
		defer func() { panicked = recover() }()
		return boxed.MustStep(x), nil
	}
	for kind, l := range things {
		for _, x := range l {
			s, panicked := must(x)
			if kind == "step" {
				if panicked != nil || any(s) != x {
					t.Errorf("MustStep(%#v): %v, %v", x, s, panicked)
				}
				continue
			}
			if e, is := panicked.(error); !is {
				t.Errorf("MustStep(%#v) doesn't panic with an error: %v", x, panicked)
			} else if re := runtime.Error(nil); !errors.As(e, &re) {
				t.Errorf("MustStep(%#v) doesn't panic as an assertion does: %v", x, panicked)
			}
		}
	}
}

func TestCount(t *testing.T) {
	var all []any
	want := map[string]int{}
	for kind, l := range things {
		all = append(all, l...)
		want[kind] = len(l)
	}
	if got := boxed.Count(all); !maps.Equal(got, want) {
		t.Error(got)
	}
	if got := boxed.Count([]any{1, nil, 2, "x", 3}); !maps.Equal(got, map[string]int{"machine": 3, "none": 1, "text": 1}) {
		t.Error(got)
	}
	for _, l := range [][]any{nil, {}} {
		if got := boxed.Count(l); len(got) != 0 {
			t.Error(got)
		}
	}
}

// steps checks the steps of things.
func steps(t *testing.T, l []any, want ...world.Step) {
	t.Helper()
	if got := boxed.Steps(l); !slices.Equal(got, want) {
		t.Errorf("Steps of %v: %v, want %v", l, got, want)
	}
}

func TestExample(t *testing.T) {
	steps(t, []any{"0a1", 2}, world.Step{A: 0}, world.Step{A: 1}, world.Step{A: 2})
}

func TestSteps(t *testing.T) {
	steps(t, nil)
	steps(t, []any{aStep, aStep}, aStep, aStep)
	steps(t, []any{5, -3, math.MaxInt, math.MinInt}, world.Step{A: 5}, world.Step{A: -3}, world.Step{A: math.MaxInt}, world.Step{A: math.MinInt})
	steps(t, []any{"9→8\xff7", "", "/:", "٣３", "12"}, world.Step{A: 9}, world.Step{A: 8}, world.Step{A: 7}, world.Step{A: 1}, world.Step{A: 2})
	steps(t, []any{'0', '9', 'a', '/', ':', rune(-1), rune(3), '5'}, world.Step{A: 0}, world.Step{A: 9}, world.Step{A: 5})
	steps(t, []any{nil, aConfig, anEvent, errors.New("1"), true, number(1), letters("1"), letter('1'), &aStep, []any{1}, int64(1), byte('1'), uint32('1'), step(aStep)})
	steps(t, []any{1, aStep, "2", '3', nil, 4}, world.Step{A: 1}, aStep, world.Step{A: 2}, world.Step{A: 3}, world.Step{A: 4})
}

func TestPlay(t *testing.T) {
	text := func(w *world.World) string {
		s, _ := glyph.Print(w.Events())
		return s
	}
	w, n := boxed.Play(nil)
	if w.Config() != (world.Config{P: 1, M: 1, G: 1}) || n != 0 || text(w) != "+0" {
		t.Error(w.Config(), n, text(w))
	}
	// The config counts wherever it stands, and the first one that may be.
	w, n = boxed.Play([]any{"00000", world.Config{P: 2, M: 1, G: 1}, world.Config{}, '0', 0, 0, 0, 0, aConfig, world.Config{P: 1, M: 1, G: 9}, "1", 5, 1, -1})
	if w.Config() != aConfig || n != 10 || text(w) != "+0 →0m0p0" {
		t.Error(w.Config(), n, text(w))
	}
	w, n = boxed.Play([]any{"0000000000", world.Step{Act: world.Block}, world.Step{Kind: world.Tick, D: 3}, world.Step{Kind: 9}, world.Config{P: 0, M: 0, G: 0}})
	if w.Config() != (world.Config{P: 1, M: 1, G: 1}) || n != 12 || text(w) != "+0 →0m0p0 ■0m0p0" || w.Source().Now() != 3 {
		t.Error(w.Config(), n, text(w))
	}
	again, _ := boxed.Play([]any{aConfig})
	other, _ := boxed.Play([]any{aConfig})
	again.Step(world.Step{})
	if other.Machine(0).Place == again.Machine(0).Place {
		t.Error("the worlds aren't apart")
	}
}

func TestRunes(t *testing.T) {
	for _, c := range []struct {
		l    []any
		want string
	}{
		{nil, ""}, {[]any{"a→", 'b', "", "c"}, "a→bc"}, {[]any{'→', rune(0), '𝄞'}, "→\x00𝄞"},
		{[]any{'x', rune(-1), int32(0xD800), int32(0xDFFF), rune(0x110000), rune(math.MaxInt32), 'y'}, "x\uFFFD\uFFFD\uFFFD\uFFFD\uFFFDy"},
		{[]any{1, nil, 1.5, errors.New("no"), letters("no"), letter('n'), byte('n'), "yes", []byte("no"), aStep, aConfig, anEvent}, "yes"},
	} {
		if got := boxed.Runes(c.l); got != c.want {
			t.Errorf("Runes of %v: %q, want %q", c.l, got, c.want)
		}
	}
}

func TestThingsAreNotChanged(t *testing.T) {
	l := []any{aConfig, "0a1", 2, 'x', aStep, nil, anEvent}
	kept := slices.Clone(l)
	a := boxed.Steps(l)
	a[0].A = 99
	boxed.Count(l)["text"] = 99
	boxed.Play(l)
	boxed.Runes(l)
	if !slices.Equal(l, kept) || boxed.Steps(l)[0].A != 0 || boxed.Count(l)["text"] != 1 {
		t.Error(l)
	}
}
