package glyph_test

import (
	"math"
	"slices"
	"strings"
	"testing"

	"hostler/api"
	"hostler/event"
	"hostler/glyph"
)

// signs are the kinds' runes, by their numbers.
var signs = []rune{'+', '!', '→', '↺', '■', '☾', '⌛', '✝'}

// words are events, and their words.
var words = []struct {
	word string
	e    event.Event
}{
	{"+3m1p0", event.Event{Kind: event.Spawn, G: 3, M: 1, P: 0}},
	{"☾3m1p0=-7", event.Event{Kind: event.Sleep, G: 3, M: 1, P: 0, Value: -7}},
	{"+0", event.Event{Kind: event.Spawn, G: 0, M: -1, P: -1}},
	{"!4095m127", event.Event{Kind: event.Ready, G: 4095, M: 127, P: -1}},
	{"→10p63", event.Event{Kind: event.Dispatch, G: 10, M: -1, P: 63}},
	{"↺0m0p0", event.Event{Kind: event.Yield}},
	{"■1m2p3", event.Event{Kind: event.Block, G: 1, M: 2, P: 3}},
	{"☾1m2p3", event.Event{Kind: event.Sleep, G: 1, M: 2, P: 3}},
	{"☾1=9223372036854775807", event.Event{Kind: event.Sleep, G: 1, M: -1, P: -1, Value: math.MaxInt64}},
	{"☾1=-9223372036854775808", event.Event{Kind: event.Sleep, G: 1, M: -1, P: -1, Value: math.MinInt64}},
	{"⌛1m2p3=65535", event.Event{Kind: event.Wait, G: 1, M: 2, P: 3, Value: 65535}},
	{"⌛1m2p3", event.Event{Kind: event.Wait, G: 1, M: 2, P: 3}},
	{"✝100m10p20", event.Event{Kind: event.Exit, G: 100, M: 10, P: 20}},
}

func TestRunesAndKinds(t *testing.T) {
	for k, want := range signs {
		if x, ok := glyph.Rune(event.Kind(k)); x != want || !ok {
			t.Errorf("Rune(%d): %q, %v", k, x, ok)
		}
		if got, ok := glyph.Kind(want); got != event.Kind(k) || !ok {
			t.Errorf("Kind(%q): %d, %v", want, got, ok)
		}
	}
	for _, k := range []event.Kind{-1, 8, 9, math.MinInt, math.MaxInt} {
		if x, ok := glyph.Rune(k); x != 0 || ok {
			t.Errorf("Rune(%d): %q, %v", k, x, ok)
		}
	}
	for _, x := range []rune{0, -1, 'a', '0', ' ', 0xFFFD, 0x10FFFF, math.MaxInt32, math.MinInt32, '→' + 1, '⌛' - 1} {
		if k, ok := glyph.Kind(x); k != 0 || ok {
			t.Errorf("Kind(%q): %d, %v", x, k, ok)
		}
	}
}

func TestCount(t *testing.T) {
	for s, want := range map[string]int{
		"": 0, "a": 1, "+3m1": 4, "→↺■": 3, "\xff": 1, "\xff\xfe": 2, "→\xe2\x86→": 4, "\xe2\x86": 2, "𝄞x": 2, "\x00": 1,
	} {
		if got := glyph.Count(s); got != want {
			t.Errorf("Count(%q): %d, want %d", s, got, want)
		}
	}
}

func TestCut(t *testing.T) {
	for _, c := range []struct {
		s    string
		n    int
		want string
	}{
		{"", 0, ""}, {"", 5, ""}, {"abc", -1, ""}, {"abc", math.MinInt, ""}, {"abc", 0, ""}, {"abc", 1, "a"},
		{"abc", 2, "ab"}, {"abc", 3, "abc"}, {"abc", 4, "abc"}, {"abc", math.MaxInt, "abc"},
		{"→↺■", 0, ""}, {"→↺■", 1, "→"}, {"→↺■", 2, "→↺"}, {"→↺■", 3, "→↺■"},
		{"\xff→\xe2\x86x", 1, "\xff"}, {"\xff→\xe2\x86x", 2, "\xff→"}, {"\xff→\xe2\x86x", 3, "\xff→\xe2"}, {"\xff→\xe2\x86x", 4, "\xff→\xe2\x86"},
	} {
		if got := glyph.Cut(c.s, c.n); got != c.want {
			t.Errorf("Cut(%q, %d): %q, want %q", c.s, c.n, got, c.want)
		}
	}
}

func TestWord(t *testing.T) {
	for _, c := range words {
		if got, e := glyph.Word(c.e); got != c.word || e != api.OK {
			t.Errorf("Word(%v): %q, %d, want %q", c.e, got, e, c.word)
		}
		if l, at, e := glyph.Parse(c.word); !slices.Equal(l, []event.Event{c.e}) || at != 0 || e != api.OK {
			t.Errorf("Parse(%q): %v, %d, %d", c.word, l, at, e)
		}
	}
	for _, e := range []event.Event{
		{Kind: -1}, {Kind: 8}, {Kind: math.MaxInt}, {G: -1}, {G: 4096}, {M: -2}, {M: 128}, {P: -2}, {P: 64},
		{Kind: event.Exit, Value: 1}, {Kind: event.Wait, Value: -1}, {Kind: event.Wait, Value: 65536},
	} {
		if got, err := glyph.Word(e); got != "" || err != api.ErrArg {
			t.Errorf("Word(%v): %q, %d", e, got, err)
		}
		if got, err := glyph.Print([]event.Event{{}, e, {}}); got != "" || err != api.ErrArg {
			t.Errorf("Print with %v: %q, %d", e, got, err)
		}
	}
}

func TestPrintAndParseRows(t *testing.T) {
	var l []event.Event
	var texts []string
	for _, c := range words {
		l = append(l, c.e)
		texts = append(texts, c.word)
		text := strings.Join(texts, " ")
		if got, e := glyph.Print(l); got != text || e != api.OK {
			t.Errorf("Print: %q, %d, want %q", got, e, text)
		}
		if got, at, e := glyph.Parse(text); !slices.Equal(got, l) || at != 0 || e != api.OK {
			t.Errorf("Parse(%q): %v, %d, %d", text, got, at, e)
		}
	}
	if got, e := glyph.Print(nil); got != "" || e != api.OK {
		t.Error(got, e)
	}
	if got, at, e := glyph.Parse(""); len(got) != 0 || at != 0 || e != api.OK {
		t.Error(got, at, e)
	}
}

func TestParseOfWrongWords(t *testing.T) {
	for _, word := range []string{
		"+", "3", "x3", "3+", "+-0", "+-1", "+03", "+00", "+ 3", "+3 ", " +3", "+3m", "+3p", "+3=", "+3m01", "+3m-1", "+3p-1", "+3m-0",
		"+3p0m1", "+3m1m1", "+3p1p1", "+3=0", "+3=5", "!3=1", "☾3=0", "☾3=-0", "☾3=+1", "☾3=01", "☾3=--1", "☾3=1 ", "☾3=1x", "☾3=1=1", "☾3=1m1",
		"☾3=9223372036854775808", "☾3=-9223372036854775809", "☾3=99999999999999999999999", "⌛3=-1", "⌛3=65536", "⌛3=0", "⌛3=1_0", "☾3=0x1",
		"+4096", "+99999999999999999999999", "+3m128", "+3p64", "+3m1p", "+3mp1", "++3", "→→3", "+3→", "+3m1p0\n", "\n+3", "+٣", "+3M1", "+3\x00",
		"\xff", "\xe2\x86", "\xe2\x86\x923m", "+3\xff", "\xff3", "+3 ", "+3\t", "+1e2", "+0x1", "+1_0", "\uFFFD3", "+３",
	} {
		l, at, e := glyph.Parse(word)
		if e != api.ErrForm || len(l) > 1 {
			t.Errorf("Parse(%q): %v, %d, %d", word, l, at, e)
		}
		if !strings.Contains(word, " ") {
			text := "☾3=1 " + word + " +1"
			if l, at, e := glyph.Parse(text); len(l) != 1 || at != 5 || e != api.ErrForm {
				t.Errorf("Parse(%q): %v, %d, %d", text, l, at, e)
			}
		}
	}
}

func TestParseTellsWhere(t *testing.T) {
	one, two := event.Event{Kind: event.Dispatch, G: 1, M: 2, P: 3}, event.Event{Kind: event.Exit, G: 0, M: -1, P: -1}
	for _, c := range []struct {
		text string
		want []event.Event
		at   int
	}{
		{" ", nil, 0}, {"  ", nil, 0}, {" ✝0", nil, 0}, {"x", nil, 0}, {"✝", nil, 0},
		{"✝0 ", []event.Event{two}, 3}, {"✝0  ✝0", []event.Event{two}, 3}, {"✝0 \xff", []event.Event{two}, 3},
		{"→1m2p3 ✝0 ■", []event.Event{one, two}, 10}, {"→1m2p3 ✝0  ", []event.Event{one, two}, 10},
		{"→1m2p3 →1m2p3 ✝0 ✝0x →1m2p3", []event.Event{one, one, two}, 17},
	} {
		l, at, e := glyph.Parse(c.text)
		if !slices.Equal(l, c.want) || at != c.at || e != api.ErrForm {
			t.Errorf("Parse(%q): %v, %d, %d, want %v, %d", c.text, l, at, e, c.want, c.at)
		}
	}
}

func TestWhatIsPrintedIsParsed(t *testing.T) {
	x := uint64(1)
	next := func(n int) int {
		x = x*6364136223846793005 + 1442695040888963407
		return int(x>>33) % n
	}
	for range 3000 {
		var l []event.Event
		for range next(4) {
			e := event.Event{Kind: event.Kind(next(8)), G: next(4096), M: next(129) - 1, P: next(65) - 1}
			switch e.Kind {
			case event.Sleep:
				e.Value = int64(x) >> (x % 64)
			case event.Wait:
				e.Value = int64(next(65536))
			}
			l = append(l, e)
		}
		text, e := glyph.Print(l)
		if got, at, err := glyph.Parse(text); e != api.OK || err != api.OK || at != 0 || !slices.Equal(got, l) {
			t.Fatalf("%v: %q: %v", l, text, got)
		}
	}
}

func TestATextHasOneRow(t *testing.T) {
	// Whatever a text is: if it is parsed, it is what is printed.
	x, parsed := uint64(7), 0
	pieces := []string{"+", "→", "☾", "⌛", "0", "1", "12", "m", "p", "=", "-", " ", "\xff"}
	for range 30000 {
		text := ""
		for range x >> 40 % 7 {
			x = x*6364136223846793005 + 1442695040888963407
			text += pieces[x>>33%uint64(len(pieces))]
		}
		x = x*6364136223846793005 + 1442695040888963407
		if l, _, e := glyph.Parse(text); e == api.OK {
			parsed++
			if again, err := glyph.Print(l); again != text || err != api.OK {
				t.Fatalf("%q is parsed as %q's", text, again)
			}
		}
	}
	if parsed < 50 {
		t.Error("few were parsed:", parsed)
	}
}
