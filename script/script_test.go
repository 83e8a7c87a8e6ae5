package script_test

import (
	"fmt"
	"strings"
	"testing"

	"goit/api"
	"goit/conf"
	"goit/loop"
	"goit/script"
)

// The setup that a new desk has, another one, and a path: a packet takes a thousandth of a second, the queue has room for three.
const (
	usual = "mss 1500 init 10 reorder 3 window 10000000 probe 200000 loss 20"
	small = "mss 1000 init 4 reorder 1 window 400000 probe 20000 loss 300"
	near  = "path 1500000 10000 500 4500"
)

// row is a line, and what it tells.
type row struct {
	line, told string
}

// talk says lines that have no error, and holds what they tell.
func (p *pair) talk(t *testing.T, l ...row) {
	t.Helper()
	for _, x := range l {
		p.tells(t, x.line, x.told, api.OK)
	}
}

// readings are the lines that change nothing.
func readings() []string { return []string{"state", "bytes", "link", "limits", "next"} }

// P24.1 (Words: the table): a talk by hand, line by line; what each of its lines tells, word by word, at a new loop, with packets on their way, and behind a loss.
func TestTalk(t *testing.T) {
	p := newPair(t)
	p.talk(t, []row{
		{near, ""},
		{"state", "startup cwnd 15000 pace 41550000 best 15000000 least 1000"},
		{"bytes", "waiting 0 flight 0 time 0"},
		{"link", "came 0 dropped 0 queued 0 served 0 under 0 delivered 0"},
		{"limits", "hi - lo - bw -"},
		{"next", "-"},
		{"step 0 20000", "0 0 0"},
		{"bytes", "waiting 20000 flight 0 time 0"},
		{"next", "37"},
		{"step 36", "0 0 0"},
		{"step 1", "0 1 1"},
		{"bytes", "waiting 18500 flight 1500 time 37"},
		{"link", "came 1500 dropped 0 queued 1500 served 0 under 0 delivered 0"},
		// packet 0 is served, due at 11300, and makes room for three of nine
		{"step 963 0 0 300", "0 9 3"},
		{"bytes", "waiting 5000 flight 15000 time 1000"},
		{"link", "came 15000 dropped 9000 queued 4500 served 1500 under 1500 delivered 0"},
		{"next", "-"},
		// packets 1 and 2 are, due at 13000 and, by the jitter, at 13500
		{"step 2000 0 0 0 9999", "0 0 0"},
		{"link", "came 15000 dropped 9000 queued 1500 served 4500 under 4500 delivered 0"},
		{"step 8299", "0 0 0"},
		{"step 1", "1 2 2"},
		// its round trip was 11263, in which 1500 bytes were delivered: 133179 a second
		{"state", "startup cwnd 16500 pace 368905 best 133179 least 11263"},
		{"bytes", "waiting 2000 flight 16500 time 11300"},
		{"link", "came 18000 dropped 9000 queued 3000 served 6000 under 4500 delivered 1500"},
		{"step 1700", "1 0 0"},
		{"step 500", "1 1 1"},
		{"run 2 2500", "0 1 1"},
		{"bytes", "waiting 0 flight 15500 time 18500"},
		{"run 2 1399", "0 0 0"},
		{"run 2 851", "3 2 2"},
		{"link", "came 23000 dropped 9000 queued 3000 served 11000 under 2000 delivered 9000"},
		// six of twelve were lost: seven tenths of what the path holds, 641025 a second for 11263
		{"limits", "hi 5054 lo - bw -"},
		{"state", "drain cwnd 6000 pace 230769 best 641025 least 11263"},
		{"bytes", "waiting 6000 flight 5000 time 23000"},
		{"next", "-"},
	}...)
}

// DOC.md, the ninth of its examples.
func TestNinth(t *testing.T) {
	p := newPair(t)
	p.talk(t, row{"path 1000000 10000 0 30000", ""}, row{"step 0 6000", "0 0 0"}, row{"step 73", "0 2 2"}, row{"bytes", "waiting 3000 flight 3000 time 73"})
}

// P24.1 (D1: ErrNone): at a desk without a loop all lines but a setup's text, and path, have that error; what is no line has its own.
func TestNone(t *testing.T) {
	all := append(readings(), "step 1", "step 1 2", "step 1 2 3", "step 1 2 3 4 5", "step 18446744073709551615", "run 1 1", "run 1000 0", "run 1000 18446744073709551615")
	wrong := []string{"", "step", "run", "run 1", "run 0 1", "run 1001 1", "run 1 1 1", "path", "path 1 2 3", "state 1", "bytes 0", "next -", "loop", "step x"}
	p := newPair(t)
	for _, s := range []string{usual, small, usual} {
		p.fails(t, api.ErrNone, all...)
		p.fails(t, api.ErrForm, wrong...)
		p.fails(t, api.ErrArg, "path 0 0 0 0", "path 1 0 0 0")
		if p.Loop() != nil {
			p.fatal(t, "a loop")
		}
		p.goes(t, s)
	}
	p.goes(t, near)
	p.goes(t, all[:len(readings())]...)
	p.fails(t, api.ErrForm, wrong...)
}

// P24.1 (D1: New, Setup, Loop): of a new desk, behind a setup's text, and behind a path; the loop that is there stays as it is when a setup is told, and the next one has that.
func TestSetup(t *testing.T) {
	second := api.Conf{MSS: 1000, Init: 4, Reorder: 1, Window: 400000, ProbeLen: 20000, Loss: 300}
	d := script.New()
	if d == nil || d.Loop() != nil || d.Setup() != conf.Default() {
		t.Fatalf("%v", d)
	}
	p := newPair(t, small)
	if p.Setup() != second || p.Loop() != nil {
		p.fatal(t, p.Setup(), p.Loop())
	}
	p.goes(t, near)
	first := p.Loop()
	if first == nil || first.Sender().Conf != second || first.Link().Path != (api.Path{Rate: 1500000, Delay: 10000, Jitter: 500, Buffer: 4500}) {
		p.fatal(t, look(first))
	}
	p.talk(t, row{"step 0 9000", "0 0 0"}, row{"step 90", "0 0 0"}, row{"step 1", "0 1 1"}, row{"bytes", "waiting 8000 flight 1000 time 91"})
	p.goes(t, usual)
	if p.Setup() != conf.Default() || p.Loop() != first || first.Sender().Conf != second {
		p.fatal(t, p.Setup(), look(first))
	}
	p.talk(t, row{"step 1000", "0 3 3"}, row{"bytes", "waiting 5000 flight 4000 time 1091"})
	p.goes(t, "path 7 8 9 10")
	if p.Loop() == first || p.Loop().Sender().Conf != conf.Default() || p.Loop().Link().Path != (api.Path{Rate: 7, Delay: 8, Jitter: 9, Buffer: 10}) {
		p.fatal(t, look(p.Loop()))
	}
	p.talk(t, row{"bytes", "waiting 0 flight 0 time 0"}, row{"state", "startup cwnd 15000 pace 41550000 best 15000000 least 1000"})
	if first.Time() != 1091 {
		t.Errorf("the first loop: %v", look(first))
	}
}

// P24.1 (Words: a setup's text): each of its numbers at its ends, and beside them; texts that are nearly one.
func TestSetupText(t *testing.T) {
	for _, lines := range [][]string{nil, {near, "step 100 5000"}} {
		p := newPair(t, lines...)
		for i, w := range []struct{ least, most uint64 }{{1, 65535}, {4, 1000}, {1, 100}, {1, 1 << 40}, {1, 1 << 40}, {0, 1000}} {
			text := func(n uint64) string {
				words := strings.Split(usual, " ")
				words[2*i+1] = fmt.Sprint(n)
				return strings.Join(words, " ")
			}
			p.goes(t, text(w.least), text(w.most), text(w.least+1), text(w.most-1))
			p.fails(t, api.ErrForm, text(w.most+1), text(w.most+2), text(1<<63), text(1<<64-1))
			if w.least > 0 {
				p.fails(t, api.ErrForm, text(w.least-1), text(0))
			}
		}
		p.goes(t, small)
		p.fails(t, api.ErrForm, "mss", "mss 1500", usual+" ", " "+usual, usual+" 1", usual+" "+usual, strings.ToUpper(usual), strings.ReplaceAll(usual, " ", "  "), strings.Replace(usual, "init 10 reorder 3", "reorder 3 init 10", 1), strings.Replace(usual, "loss", "los", 1), strings.Replace(usual, "20", "020", 1), usual[:len(usual)-3], "init 10", "conf "+usual)
	}
}

// P24.1 (Words: path): as many numbers as it wants, and paths at both ends of these; one that may not be is an error, and the loop that was there stays.
func TestPath(t *testing.T) {
	for _, lines := range [][]string{nil, {near, "step 100 5000", "step 100"}} {
		p := newPair(t, lines...)
		before := p.Loop()
		p.fails(t, api.ErrArg,
			"path 0 1 1 1", "path 1099511627777 1 1 1",
			"path 1 4398046511105 1 1", "path 1 1 4398046511105 1",
			"path 1 1 1 0", "path 1 1 1 72057594037927937",
			"path 18446744073709551615 18446744073709551615 18446744073709551615 18446744073709551615", "path 0 0 0 0")
		p.fails(t, api.ErrForm, "path", "path ", "path 1", "path 1 2", "path 1 2 3", "path 1 2 3 ", "path 1 2 3 4 5", "path 1 2 3 4 ", "path 0 1 1", "path 0 1 1 1 1", "path 1 2 3 -", "path 1 2 3 18446744073709551616")
		if p.Loop() != before {
			p.fatal(t, "another loop")
		}
		p.goes(t, "path 1 0 0 1", "path 1 4398046511104 4398046511104 72057594037927936", "path 1099511627776 0 0 1", "path 1 1 1 1")
		if p.Loop() == nil || p.Loop() == before {
			p.fatal(t, "no other loop")
		}
		l := p.Loop()
		p.goes(t, "path 1 1 1 1")
		if p.Loop() == l {
			p.fatal(t, "the same loop, behind the same path")
		}
	}
}

// P24.1 (Words: step): After alone, with Write, with Waste, with choices, each of them at its place; without a number it is no line.
func TestStep(t *testing.T) {
	p := newPair(t, near)
	tokens := func(tokens, wasted uint64) {
		t.Helper()
		if x, y := p.Loop().Link().Tokens(); x != tokens || y != wasted {
			p.fatal(t, x, y)
		}
	}
	p.tells(t, "step 10", "0 0 0", api.OK)
	p.tells(t, "bytes", "waiting 0 flight 0 time 10", api.OK)
	tokens(15000000, 0)
	p.tells(t, "step 20 7", "0 1 1", api.OK)
	p.tells(t, "bytes", "waiting 0 flight 7 time 30", api.OK)
	tokens(45000000, 0)
	p.tells(t, "step 40 0 5", "0 0 0", api.OK)
	p.tells(t, "link", "came 7 dropped 0 queued 0 served 7 under 7 delivered 0", api.OK)
	tokens(105000000-7000000-5, 5)
	p.tells(t, "step 0 0 18446744073709551615", "0 0 0", api.OK)
	tokens(0, 98000000)
	p.tells(t, "step 0 0 0", "0 0 0", api.OK)
	p.tells(t, "step 1000 3 5", "0 1 1", api.OK)
	p.tells(t, "step 0 0 0 499 8", "0 0 0", api.OK) // due at 11569
	p.tells(t, "step 9000", "1 0 0", api.OK)
	p.tells(t, "step 1498", "0 0 0", api.OK)
	p.tells(t, "step 1", "1 0 0", api.OK)
	p.tells(t, "bytes", "waiting 0 flight 0 time 11569", api.OK)
	p.fails(t, api.ErrForm, "step", "step ", "step -", "step 1 -", "step 1 2 ", "step 1 2 3 ", "step 1 2 3 x", "step a 1", "step 1 1 1 1 18446744073709551616", "step 1 1 1 1 01")
	p.tells(t, "step 0", "0 0 0", api.OK)
}

// P24.1 (Words: step, choices): each of many is used, one a packet that is served; the longest line has 991 of them, one that is a byte longer is none.
func TestLongest(t *testing.T) {
	p := newPair(t, "mss 1 init 1000 reorder 100 window 10000000 probe 200000 loss 1000", "path 1 10 9 4096")
	p.tells(t, "step 0 1000", "0 0 0", api.OK)
	p.tells(t, "run 15 24", "0 960 960", api.OK)
	p.tells(t, "run 1 24", "0 40 40", api.OK)
	longest := "step 999999999 0 0" + strings.Repeat(" 0", 989) + " 5 9"
	if len(longest) != 2000 || script.MostLine != 2000 {
		t.Fatal(len(longest))
	}
	p.fails(t, api.ErrForm, longest+"9", longest+" ", longest+" 9", strings.Replace(longest, "0", "00", 1), strings.Replace(longest, "step 9", "step 19", 1))
	p.tells(t, "bytes", "waiting 0 flight 1000 time 384", api.OK)
	p.goes(t, longest)
	// packets 989 and 990 are later than 988 by 5, and by 9; those behind them can't be ahead of these
	for _, x := range []struct{ after, delivered int }{{0, 0}, {9, 0}, {1, 989}, {4, 989}, {1, 990}, {3, 990}, {1, 1000}} {
		p.goes(t, fmt.Sprint("step ", x.after))
		if told, _ := p.says(t, "link"); !strings.HasSuffix(told, fmt.Sprint(" delivered ", x.delivered)) {
			p.fatal(t, told, ", not ", x.delivered)
		}
	}
}

// P24.1 (Words: run): from 1 to 1000 steps, of a time alone, told together; what it did till an error ended it stays, and nothing is told.
func TestRun(t *testing.T) {
	p := newPair(t, near)
	p.fails(t, api.ErrForm, "run", "run ", "run 1", "run 1 ", "run 1 1 1", "run 1 1 ", "run 0 1", "run 0 0", "run 0", "run 1001 1", "run 1001 0", "run 1001", "run 2000 1", "run 65537 1", "run 4294967297 1", "run 18446744073709551615 1", "run 18446744073709551616 1", "run -1 1", "run 1 -1", "run 01 1", "run one 1")
	p.tells(t, "step 0 20000", "0 0 0", api.OK)
	p.tells(t, "run 1 0", "0 0 0", api.OK)
	p.tells(t, "run 2 36", "0 1 1", api.OK)
	p.tells(t, "bytes", "waiting 18500 flight 1500 time 72", api.OK)
	p.tells(t, "run 1000 0", "0 0 0", api.OK)
	p.tells(t, "run 999 1", "0 9 2", api.OK)
	p.tells(t, "bytes", "waiting 5000 flight 15000 time 1071", api.OK)
	p.tells(t, "run 1000 1", "0 0 0", api.OK)
	// packets 0 to 2 are delivered, all that waits goes: 1500, 1500, 1500, 500
	p.tells(t, "run 1000 18", "3 4 4", api.OK)
	p.tells(t, "link", "came 20000 dropped 10500 queued 0 served 9500 under 5000 delivered 4500", api.OK)

	p = newPair(t, near, "step 37 6000", "step 1000", "step 3000")
	p.tells(t, "bytes", "waiting 0 flight 6000 time 4037", api.OK)
	p.tells(t, "run 3 2199023251537", "", api.ErrHorizon) // a third of 3 times 2^41 is too much
	p.tells(t, "bytes", "waiting 0 flight 0 time 4398046507111", api.OK)
	p.tells(t, "link", "came 6000 dropped 0 queued 0 served 6000 under 0 delivered 6000", api.OK)
	p.fails(t, api.ErrHorizon, "run 1 0", "run 1000 0", "step 0")
	p = newPair(t, near, "run 1000 4398046511")
	p.tells(t, "run 1000 1", "", api.ErrHorizon)
	p.tells(t, "bytes", "waiting 0 flight 0 time 4398046511104", api.OK)
	if n := p.Loop().Link().Time(); n != api.Horizon+1 {
		p.fatal(t, n)
	}
}

// P24.1 (D1: the loop's error): a step that an error ends tells nothing, and what it did stays; past the horizon there are readings, and setups, and another loop.
func TestErrors(t *testing.T) {
	p := newPair(t, near, "step 37 6000", "step 963", "step 0")
	p.tells(t, "step 4398046511104 70 9", "", api.ErrHorizon)
	p.talk(t, row{"bytes", "waiting 70 flight 6000 time 1000"}, row{"link", "came 6000 dropped 0 queued 0 served 6000 under 4500 delivered 1500"}, row{"next", "-"}, row{"limits", "hi - lo - bw -"}, row{"state", "startup cwnd 15000 pace 41550000 best 15000000 least 1000"})
	p.fails(t, api.ErrHorizon, "step 0", "step 1 1 1 1", "run 1 0", "step 18446744073709551615 18446744073709551615 18446744073709551615 18446744073709551615")
	p.goes(t, small)
	p.fails(t, api.ErrArg, "path 0 1 1 1")
	p.fails(t, api.ErrHorizon, "step 0")
	p.goes(t, near)
	p.tells(t, "step 0", "0 0 0", api.OK)

	p.tells(t, "step 7 72057594037927936", "0 0 0", api.OK)
	p.tells(t, "step 7 1", "", api.ErrHorizon)
	p.tells(t, "bytes", "waiting 72057594037927936 flight 0 time 7", api.OK)

	p = newPair(t, near, "step 37 6000", "step 963", "step 0")
	for _, l := range []*loop.Loop{p.Loop(), p.plain.loop} {
		if _, e := l.Tick(30000); e != api.OK {
			t.Fatal(e)
		}
	}
	p.tells(t, "step 10000 1500", "", api.ErrRange)
	p.tells(t, "run 9 1", "", api.ErrRange)
	p.talk(t, row{"bytes", "waiting 1500 flight 6000 time 30000"}, row{"link", "came 6000 dropped 0 queued 0 served 6000 under 4500 delivered 1500"}, row{"next", "30000"})
	if n := p.Loop().Link().Time(); n != 11001 {
		p.fatal(t, n)
	}
	p.fails(t, api.ErrRange, "run 1000 18")
	p.tells(t, "step 18981", "3 2 2", api.OK) // packet 0 is lost, as nobody told that it was delivered
}

// P24.1 (Words: state): each of the seven states' names, in an order in which they may come.
func TestStates(t *testing.T) {
	p := newPair(t, "path 1500000 10000 0 60000", "step 0 100000000")
	behind := map[string]string{"": "startup", "startup": "drain", "drain": "down", "down": "cruise refill probe", "cruise": "refill probe", "refill": "up probe", "up": "down probe", "probe": "cruise"}
	last, seen := "", map[string]bool{}
	for range 12000 {
		p.goes(t, "step 1000")
		told, e := p.says(t, "state")
		name, _, _ := strings.Cut(told, " ")
		if e != api.OK || name != last && !strings.Contains(" "+behind[last]+" ", " "+name+" ") {
			p.fatal(t, told, e, " behind ", last)
		}
		last = name
		seen[name] = true
	}
	for _, s := range stateNames() {
		if !seen[s] {
			t.Errorf("no state is %s: %v", s, seen)
		}
	}
}

// P24.1 (Words: next): when the next packet may go, which then goes, and not ahead of that; nothing waits, or is allowed, or the horizon is past.
func TestNext(t *testing.T) {
	p := newPair(t, near)
	p.talk(t, []row{
		{"step 0 0", "0 0 0"},
		{"next", "-"}, // nothing waits
		{"step 0 1600", "0 0 0"},
		{"next", "37"},
		{"step 36", "0 0 0"},
		{"next", "37"},
		{"step 1", "0 1 1"},
		{"next", "39"}, // 100 bytes, with 37350000 millionths
		{"step 1", "0 0 0"},
		{"next", "39"},
		{"step 1", "0 1 1"},
		{"next", "-"},
		{"step 961 30000", "0 8 2"},
		{"next", "-"}, // cwnd is full
	}...)
	p.fails(t, api.ErrHorizon, "step 4398046511104")
	p.tells(t, "next", "-", api.OK)
}
