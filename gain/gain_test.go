package gain_test

import (
	"math"
	"math/big"
	"slices"
	"strings"
	"testing"

	"goit/api"
	"goit/fix"
	"goit/gain"
)

// told is the document's table, in order.
var told = []struct {
	state        api.State
	name         string
	rate, flight uint64
}{
	{0, "startup", 277, 200},
	{1, "drain", 36, 200},
	{2, "down", 75, 200},
	{3, "cruise", 100, 200},
	{4, "refill", 100, 200},
	{5, "up", 125, 225},
	{6, "probe", 100, 50},
}

// others are no states: those beside the first and the last one, the least and the greatest, and those that would be states in fewer bits.
var others = []api.State{-1, 7, -2, 8, -6, -7, 9, 10, 100, -100, 255, 256, 257, 262, -256, 1 << 31, 1 << 32, 1<<32 + 3, 1<<32 + 6, -1 << 31, -1 << 32, -1<<32 + 2, math.MaxInt, math.MaxInt - 1, math.MinInt, math.MinInt + 1, math.MinInt + 5}

// numbers are edges, and numbers that the gains divide, and do not.
func numbers() []uint64 {
	l := []uint64{1 << 31, 1<<32 - 1, 1 << 32, 1<<32 + 1, api.MaxRate, api.MaxBytes, 1 << 63, 1<<63 - 1, 1<<63 + 1, fix.Max, fix.Max - 1, fix.Max - 2, fix.Max - 15, fix.Max - 99, fix.Max - 100}
	for x := range uint64(1001) {
		l = append(l, x)
	}
	for _, x := range told {
		for _, g := range []uint64{x.rate, x.flight} {
			for _, top := range []uint64{fix.Max / g, fix.Max/g*100 + fix.Max%g*100/g} { // from where on the product, and the answer, would run over
				for d := range uint64(5) {
					l = append(l, top-2+d)
				}
			}
		}
	}
	x := uint64(12)
	for range 3000 {
		x = x*6364136223846793005 + 1442695040888963407
		l = append(l, x>>(x>>32%64))
	}
	return l
}

// by is a number times a gain, by 100, without a bound up to the end.
func by(x, gain uint64, up bool) uint64 {
	n := new(big.Int).Mul(new(big.Int).SetUint64(x), new(big.Int).SetUint64(gain))
	if up {
		n.Add(n, big.NewInt(99))
	}
	n.Quo(n, big.NewInt(100))
	if !n.IsUint64() {
		return fix.Max
	}
	return n.Uint64()
}

// P12.1 (G1: Right).
func TestRight(t *testing.T) {
	for _, x := range told {
		if !gain.Right(x.state) {
			t.Errorf("Right(%d): false", x.state)
		}
	}
	for _, s := range others {
		if gain.Right(s) {
			t.Errorf("Right(%d): true", s)
		}
	}
	for s := api.State(-1000); s <= 1000; s++ {
		if got := gain.Right(s); got != (0 <= s && s <= 6) {
			t.Errorf("Right(%d): %t", s, got)
		}
	}
}

// P12.1 (G1: Name).
func TestName(t *testing.T) {
	for _, x := range told {
		for range 20 {
			if got := gain.Name(x.state); got != x.name {
				t.Errorf("Name(%d): %q, not %q", x.state, got, x.name)
			}
		}
	}
	for _, s := range others {
		if got := gain.Name(s); got != "" {
			t.Errorf("Name(%d): %q", s, got)
		}
	}
	for s := api.State(-100); s <= 100; s++ {
		if got := gain.Name(s); (got != "") != (0 <= s && s <= 6) {
			t.Errorf("Name(%d): %q", s, got)
		}
	}
}

// P12.1 (G1: Parse).
func TestParse(t *testing.T) {
	for _, x := range told {
		for range 20 {
			if got, err := gain.Parse(x.name); got != x.state || err != api.OK {
				t.Errorf("Parse(%q): %d, %d", x.name, got, err)
			}
			// A text that was put together, not written out.
			if got, err := gain.Parse(string([]byte(x.name))); got != x.state || err != api.OK {
				t.Errorf("Parse of the bytes of %q: %d, %d", x.name, got, err)
			}
		}
	}
}

// near are texts that are nearly a name: a letter more, a letter less, another letter, another case, or something ahead or behind.
func near(name string) []string {
	l := []string{strings.ToUpper(name), name + name, name + " " + name}
	for _, c := range []string{" ", "\t", "\n", "\r", "\x00", "\"", ".", ",", "\u00a0", "\ufeff", "0", "\xff"} {
		l = append(l, c+name, name+c, c+name+c)
	}
	for i := range len(name) {
		l = append(l, name[:i], name[i:], name[:i]+name[i+1:], name[:i]+strings.ToUpper(name[i:i+1])+name[i+1:])
		for c := range 256 {
			l = append(l, name[:i]+string([]byte{byte(c)})+name[i+1:])
		}
	}
	for i := range len(name) + 1 {
		for c := range 256 {
			l = append(l, name[:i]+string([]byte{byte(c)})+name[i:])
		}
	}
	return l
}

// P12.1 (G1: Parse, of what is none's name).
func TestParseNone(t *testing.T) {
	texts := []string{"", " ", "0", "1", "6", "7", "-1", "start", "Startup", "start up", "start-up", "probertt", "probeRTT", "ProbeRTT", "probe_rtt", "rtt", "cruising", "startupdrain", "up,down", "updown", "st\x00rtup", "\xff", "\xf0\x9f", "ｕｐ", "uр", "\x00", "ok", "none", strings.Repeat("up", 50000), "startup" + strings.Repeat(" ", 100000), "drain\x00\x00"}
	for _, x := range told {
		texts = append(texts, near(x.name)...)
		for _, y := range told {
			texts = append(texts, x.name+y.name, x.name+" "+y.name)
		}
	}
	names := map[string]bool{}
	for _, x := range told {
		names[x.name] = true
	}
	for _, s := range texts {
		if names[s] { // what is cut off, or changed, may be a name
			continue
		}
		if got, err := gain.Parse(s); got != 0 || err != api.ErrForm {
			t.Errorf("Parse(%q): %d, %d", s, got, err)
		}
	}
}

// P12.1 (G1: Parse), all texts of up to three letters.
func TestParseShort(t *testing.T) {
	letters := " abcdefghijklmnopqrstuvwxyzUP"
	texts := []string{""}
	for i := 0; i < len(texts); i++ {
		want, wrong := api.State(0), api.ErrForm
		if texts[i] == "up" {
			want, wrong = 5, api.OK
		}
		if got, err := gain.Parse(texts[i]); got != want || err != wrong {
			t.Errorf("Parse(%q): %d, %d", texts[i], got, err)
		}
		if len(texts[i]) < 3 {
			for _, c := range letters {
				texts = append(texts, texts[i]+string(c))
			}
		}
	}
}

// P12.1 (G1: Pace, Window), by hand.
func TestGains(t *testing.T) {
	for _, x := range []struct {
		state          api.State
		number         uint64
		pace, windowed uint64
	}{
		{api.Startup, 1000, 2770, 2000}, {api.Drain, 1000, 360, 2000}, {api.Down, 1000, 750, 2000}, {api.Cruise, 1000, 1000, 2000}, {api.Refill, 1000, 1000, 2000}, {api.Up, 1000, 1250, 2250}, {api.ProbeRTT, 1000, 1000, 500},
		// Nothing of nothing.
		{api.Startup, 0, 0, 0}, {api.Drain, 0, 0, 0}, {api.Down, 0, 0, 0}, {api.Cruise, 0, 0, 0}, {api.Refill, 0, 0, 0}, {api.Up, 0, 0, 0}, {api.ProbeRTT, 0, 0, 0},
		// Down and up: 2.77 and 2; 0.36; 0.75; 1.25 and 2.25; 1 and 0.5.
		{api.Startup, 1, 2, 2}, {api.Drain, 1, 0, 2}, {api.Down, 1, 0, 2}, {api.Up, 1, 1, 3}, {api.ProbeRTT, 1, 1, 1},
		{api.Drain, 2, 0, 4}, {api.Drain, 3, 1, 6}, {api.Drain, 25, 9, 50}, {api.Drain, 26, 9, 52}, {api.Drain, 24, 8, 48},
		{api.Down, 4, 3, 8}, {api.Down, 5, 3, 10}, {api.Down, 3, 2, 6},
		{api.Up, 3, 3, 7}, {api.Up, 4, 5, 9}, {api.Up, 5, 6, 12}, {api.Up, 7, 8, 16},
		{api.ProbeRTT, 2, 2, 1}, {api.ProbeRTT, 3, 3, 2}, {api.ProbeRTT, 4, 4, 2},
		{api.Startup, 100, 277, 200}, {api.Startup, 99, 274, 198}, {api.Startup, 101, 279, 202},
		// The greatest number would run over where a gain is above 100; with the others the product does, not the answer.
		{api.Startup, fix.Max, fix.Max, fix.Max}, {api.Drain, fix.Max, 6640827866535438581, fix.Max}, {api.Down, fix.Max, 13835058055282163711, fix.Max}, {api.Cruise, fix.Max, fix.Max, fix.Max}, {api.Refill, fix.Max, fix.Max, fix.Max}, {api.Up, fix.Max, fix.Max, fix.Max}, {api.ProbeRTT, fix.Max, fix.Max, 1 << 63},
		{api.Cruise, 1<<63 - 1, 1<<63 - 1, fix.Max - 1}, {api.Cruise, 1 << 63, 1 << 63, fix.Max},
	} {
		if got := gain.Pace(x.state, x.number); got != x.pace {
			t.Errorf("Pace(%d, %d): %d, not %d", x.state, x.number, got, x.pace)
		}
		if got := gain.Window(x.state, x.number); got != x.windowed {
			t.Errorf("Window(%d, %d): %d, not %d", x.state, x.number, got, x.windowed)
		}
	}
}

// P12.1 (G1: Pace, Window; rule 10), against numbers without a bound.
func TestGainsAll(t *testing.T) {
	for _, n := range numbers() {
		for _, x := range told {
			if got, want := gain.Pace(x.state, n), by(n, x.rate, false); got != want {
				t.Errorf("Pace(%d, %d): %d, not %d", x.state, n, got, want)
			}
			if got, want := gain.Window(x.state, n), by(n, x.flight, true); got != want {
				t.Errorf("Window(%d, %d): %d, not %d", x.state, n, got, want)
			}
		}
	}
}

// P12.1 (G1: Pace, Window, of what is no state).
func TestGainsNone(t *testing.T) {
	for _, n := range numbers() {
		for _, s := range others {
			if got := gain.Pace(s, n); got != 0 {
				t.Errorf("Pace(%d, %d): %d", s, n, got)
			}
			if got := gain.Window(s, n); got != 0 {
				t.Errorf("Window(%d, %d): %d", s, n, got)
			}
		}
	}
}

// P12.1 (G1: All).
func TestAll(t *testing.T) {
	want := []api.State{0, 1, 2, 3, 4, 5, 6}
	if got := gain.All(); !slices.Equal(got, want) {
		t.Fatalf("All: %d", got)
	}
	for _, s := range gain.All() {
		if !gain.Right(s) {
			t.Errorf("Right(%d): false", s)
		}
	}
}

// Rule 4 (All): what is done to an answer changes neither another one nor what any call answers later.
func TestAllIsNew(t *testing.T) {
	want := []api.State{0, 1, 2, 3, 4, 5, 6}
	first, second := gain.All(), gain.All()
	// All of its memory is written into, that behind its length too.
	room := append(first, 9, 9, 9)
	for _, l := range [][]api.State{first[:cap(first)], room[:cap(room)]} {
		for i := range l {
			l[i] = 77
		}
	}
	if !slices.Equal(second, want) {
		t.Errorf("the answer beside it: %d", second)
	}
	if got := gain.All(); !slices.Equal(got, want) {
		t.Errorf("All: %d", got)
	}
	for _, x := range told {
		if s, err := gain.Parse(x.name); !gain.Right(x.state) || gain.Name(x.state) != x.name || s != x.state || err != api.OK || gain.Pace(x.state, 100) != x.rate || gain.Window(x.state, 100) != x.flight {
			t.Errorf("%s has changed", x.name)
		}
	}
}

// P12.2 (there and back).
func TestThereAndBack(t *testing.T) {
	seen := map[string]int{}
	for _, s := range gain.All() {
		name := gain.Name(s)
		seen[name]++
		if got, err := gain.Parse(name); got != s || err != api.OK {
			t.Errorf("Parse(Name(%d)): %d, %d", s, got, err)
		}
	}
	if len(seen) != 7 || seen[""] != 0 {
		t.Errorf("names: %v", seen)
	}
	for name, count := range seen {
		if count != 1 {
			t.Errorf("%d states are called %q", count, name)
		}
		s, _ := gain.Parse(name)
		if got := gain.Name(s); got != name {
			t.Errorf("Name(Parse(%q)): %q", name, got)
		}
	}
	for _, s := range others {
		if got, err := gain.Parse(gain.Name(s)); got != 0 || err != api.ErrForm {
			t.Errorf("Parse(Name(%d)): %d, %d", s, got, err)
		}
	}
}

// answers are those of all calls, at one state and one number.
type answers struct {
	right        bool
	name         string
	parsed       api.State
	err          api.Errno
	pace, window uint64
	all          [7]api.State
}

func ask(s api.State, n uint64) answers {
	a := answers{right: gain.Right(s), name: gain.Name(s), pace: gain.Pace(s, n), window: gain.Window(s, n), all: [7]api.State(gain.All())}
	a.parsed, a.err = gain.Parse(a.name)
	return a
}

// P1, P2: each call ends, and what it answers hangs on its arguments alone, whatever was asked ahead of it.
func TestAgain(t *testing.T) {
	type question struct {
		state  api.State
		number uint64
	}
	first := map[question]answers{}
	x := uint64(5)
	for range 60000 {
		x = x*6364136223846793005 + 1442695040888963407
		q := question{api.State(x>>40%9) - 1, []uint64{0, 1, 3, 1000, fix.Max}[x>>50%5]}
		a := ask(q.state, q.number)
		if before, ok := first[q]; ok && a != before {
			t.Fatalf("%v: %v, and %v ahead of that", q, a, before)
		}
		first[q] = a
	}
	if len(first) != 45 {
		t.Errorf("%d questions", len(first))
	}
}
