package script_test

import (
	"slices"
	"testing"

	"hostler/api"
	"hostler/glyph"
	"hostler/model"
	"hostler/script"
	"hostler/world"
)

// parse checks a script's config and steps.
func parse(t *testing.T, b []byte, c world.Config, want ...world.Step) {
	t.Helper()
	kept := slices.Clone(b)
	got, l := script.Parse(b)
	if got != c || !slices.Equal(l, want) {
		t.Errorf("Parse(%v): %v, %v, want %v, %v", kept, got, l, c, want)
	}
	if !slices.Equal(b, kept) {
		t.Error("what is handed in is changed")
	}
}

func TestExample(t *testing.T) {
	for _, b := range [][]byte{nil, {}} {
		parse(t, b, world.Config{P: 1, M: 1, G: 1})
		if text := script.Text(b); text != "+0" {
			t.Error(text)
		}
	}
}

func TestConfig(t *testing.T) {
	for _, c := range []struct {
		b    []byte
		want world.Config
	}{
		{[]byte{3}, world.Config{P: 4, M: 4, G: 1}}, {[]byte{4}, world.Config{P: 1, M: 1, G: 1}},
		{[]byte{1, 2}, world.Config{P: 2, M: 4, G: 1}}, {[]byte{2, 7}, world.Config{P: 3, M: 6, G: 1}},
		{[]byte{0, 0, 31}, world.Config{P: 1, M: 1, G: 32}}, {[]byte{0, 3, 32}, world.Config{P: 1, M: 4, G: 1}},
		{[]byte{255, 255, 255}, world.Config{P: 4, M: 7, G: 32}}, {[]byte{254, 253, 70}, world.Config{P: 3, M: 4, G: 7}},
	} {
		parse(t, c.b, c.want)
	}
	if script.MaxSteps != 2000 {
		t.Error(script.MaxSteps)
	}
}

func TestEachStep(t *testing.T) {
	c := world.Config{P: 2, M: 3, G: 5}
	head := []byte{1, 1, 4}
	for _, s := range []struct {
		b    []byte
		want []world.Step
	}{
		{[]byte{0}, []world.Step{{}}},
		{[]byte{9}, []world.Step{{}}},
		{[]byte{16, 32, 48, 255 - 6}, []world.Step{{A: 1}, {A: 2}, {A: 0}, {A: 0}}},
		{[]byte{0x25, 0x31, 0xE9}, []world.Step{{A: 2}, {A: 0}, {A: 2}}},
		{[]byte{0x1A, 4, 3, 0x1B, 4, 8}, []world.Step{{Act: world.Spawn, A: 1, X: 3}, {Act: world.Spawn, A: 1, X: 3}}},
		{[]byte{0x0A, 7, 200}, []world.Step{{Act: world.Wait, X: 200}}},
		{[]byte{0x4B, 15, 255}, []world.Step{{Act: world.Wait, A: 1, X: 255}}},
		{[]byte{0x0A, 13, 200}, []world.Step{{Act: world.Wake, X: 0}}},
		{[]byte{0x0A, 8, 6, 0x0A, 254, 9}, []world.Step{{Act: world.Run, X: 1}, {Act: world.Sleep, X: 4}}},
		{[]byte{0x0A, 1}, []world.Step{{Act: world.Yield}}},
		{[]byte{0x0A}, []world.Step{{}}},
		{[]byte{0x2C, 0, 0x2C, 4, 0x2C, 255}, []world.Step{{Act: world.Sleep, A: 2, D: -4}, {Act: world.Sleep, A: 2}, {Act: world.Sleep, A: 2, D: 251}}},
		{[]byte{0x3C}, []world.Step{{Act: world.Sleep, D: -4}}},
		{[]byte{0x0D, 7, 0xFD, 255, 0x1D}, []world.Step{{Kind: world.Tick, D: 7}, {Kind: world.Tick, D: 255}, {Kind: world.Tick}}},
		{[]byte{0x0E, 0x5E, 0xFE}, []world.Step{{Kind: world.Ready}, {Kind: world.Ready, A: 5}, {Kind: world.Ready, A: 15}}},
		{[]byte{0x1F, 3, 0}, []world.Step{{A: 1}, {A: 1}, {A: 1}, {}}},
		{[]byte{0x3F, 66, 0x10}, []world.Step{{A: 0}, {A: 0}, {A: 1}}},
		{[]byte{0x1F, 0, 0x1F, 64, 0x20}, []world.Step{{A: 2}}},
		{[]byte{0x1F}, nil},
	} {
		parse(t, append(slices.Clone(head), s.b...), c, s.want...)
	}
	_, l := script.Parse([]byte{0, 0, 0, 0xFF, 255})
	if len(l) != 63 {
		t.Error(len(l))
	}
}

func TestAtMostSoManySteps(t *testing.T) {
	b := make([]byte, 3+script.MaxSteps+500)
	if _, l := script.Parse(b[:3+script.MaxSteps-1]); len(l) != script.MaxSteps-1 {
		t.Error(len(l))
	}
	if _, l := script.Parse(b[:3+script.MaxSteps]); len(l) != script.MaxSteps {
		t.Error(len(l))
	}
	if _, l := script.Parse(b); len(l) != script.MaxSteps {
		t.Error(len(l))
	}
	// The last ones are many at once.
	b = b[:3+script.MaxSteps-10]
	for n, want := range map[byte]int{9: 1999, 10: 2000, 11: 2000, 63: 2000} {
		_, l := script.Parse(append(slices.Clone(b), 0x0F, n, 0x0D, 5))
		if n == 9 {
			want++
		}
		if len(l) != want || (l[len(l)-1].Kind == world.Tick) != (n == 9) {
			t.Errorf("%d at last: %d", n, len(l))
		}
	}
}

func TestRunAndText(t *testing.T) {
	// Goroutine 0 runs, and spawns 1; then machine 1 steals it.
	b := []byte{1, 0, 3, 0x0F, 10, 0x0A, 4, 1, 0x0F, 11, 0x1F, 18}
	if text := script.Text(b); text != "+0 →0m0p0 +1m0p0 →1m1p1" {
		t.Error(text)
	}
	w := script.Run(b)
	if w.Config() != (world.Config{P: 2, M: 2, G: 4}) || w.Machine(0).G != 0 || w.Machine(1).G != 1 {
		t.Error(w.Config(), w.Machine(0).G, w.Machine(1).G)
	}
	// Asleep until 1, ahead of a Tick, and with a descriptor that is ready.
	b = []byte{0, 0, 0, 0x0F, 10, 0x0C, 5, 0x0F, 37, 0x0D, 1, 0x0F, 41, 0x5E, 0x0B, 7, 5, 0x0F, 35}
	if text := script.Text(b); text != "+0 →0m0p0 ☾0m0p0=1 !0m0 →0m0p0 ⌛0m0p0=5 !0m0p0 →0m0p0" {
		t.Error(text)
	}
	if now := script.Run(b).Source().Now(); now != 1 {
		t.Error(now)
	}
}

func TestAnyBytesHaveAWorld(t *testing.T) {
	x := uint64(3)
	for n := range 400 {
		b := make([]byte, n)
		for i := range b {
			x = x*6364136223846793005 + 1442695040888963407
			b[i] = byte(x >> 33)
		}
		kept := slices.Clone(b)
		w := script.Run(b)
		c, l := script.Parse(b)
		again, e := world.New(c)
		if e != api.OK || len(l) > script.MaxSteps {
			t.Fatal(c, len(l))
		}
		again.Run(l)
		text, _ := glyph.Print(again.Events())
		if script.Text(b) != text || !slices.Equal(w.Events(), again.Events()) || !w.Memory().Same(again.Memory()) {
			t.Fatalf("%v: %s", b, text)
		}
		if f := model.Check(c.P, c.M, c.G, w.Events()); len(f) > 0 {
			t.Fatal(b, f)
		}
		if !slices.Equal(b, kept) {
			t.Fatal("what is handed in is changed")
		}
		if len(l) > 0 {
			l[0].A = 77
			if _, l2 := script.Parse(b); l2[0].A == 77 {
				t.Fatal("answers aren't new")
			}
		}
	}
}
