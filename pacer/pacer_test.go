package pacer_test

import (
	"slices"
	"testing"

	"goit/api"
	"goit/pacer"
)

// step is a call, what it answers, and the credit then.
type step struct {
	call
	answer
	credit uint64
}

func ticks(now, rate, quantum, credit uint64) step {
	return step{tick(now, rate, quantum), answer{}, credit}
}

func refuses(now, rate, quantum, credit uint64) step {
	return step{tick(now, rate, quantum), answer{errno: api.ErrRange}, credit}
}

func takes(size, credit uint64) step { return step{take(size), answer{taken: true}, credit} }

func lacks(size, credit uint64) step { return step{take(size), answer{}, credit} }

func fills(credit uint64) step { return step{fill(), answer{}, credit} }

// steps holds a new pacer against them, one by one, and answers it; the same calls are held against a plain one, so that this one is looked at as well.
func steps(t *testing.T, l ...step) *pacer.Pacer {
	t.Helper()
	p := pacer.New()
	if p == nil {
		t.Fatal("a new pacer is nil")
	}
	var calls []call
	for i, s := range l {
		got := s.do(p)
		if credit := p.Credit(); got != s.answer || credit != s.credit {
			t.Fatalf("step %d, %v: %v, and a credit of %d", i, s, got, credit)
		}
		calls = append(calls, s.call)
	}
	run(t, calls)
	return p
}

// will holds what Next tells of a size against a time.
func will(t *testing.T, p *pacer.Pacer, size, at uint64) {
	t.Helper()
	if got := next(p, size); got != (then{at, true}) {
		t.Errorf("Next(%d): %v, not %d", size, got, at)
	}
}

// never holds what Next tells of a size against nothing.
func never(t *testing.T, p *pacer.Pacer, size uint64) {
	t.Helper()
	if got := next(p, size); got != (then{}) {
		t.Errorf("Next(%d): %v, not 0 and false", size, got)
	}
}

// P16.1 (K1, K2; Words): a pacer without a tick: its time and its credit are 0, and it has no rate, and no quantum.
func TestNew(t *testing.T) {
	p := pacer.New()
	if got := p.Credit(); got != 0 {
		t.Errorf("credit %d", got)
	}
	will(t, p, 0, 0)
	never(t, p, 1)
	never(t, p, greatest)
	steps(t, takes(0, 0), lacks(1, 0), lacks(fitting, 0), lacks(wrapping, 0), lacks(greatest, 0), fills(0), takes(0, 0), lacks(1, 0))
	p = steps(t, fills(0), ticks(0, 7, 9, 0)) // its time is 0: that is not behind, and nothing is between
	will(t, p, 0, 0)
	will(t, p, 1, 142858)
	never(t, p, 10)
}

// P16.1 (K1: Tick), one tick of a new pacer: the credit is below, at, and above the quantum times 1000000.
func TestTick(t *testing.T) {
	for _, s := range []step{
		ticks(0, 0, 0, 0),
		ticks(0, 5, 7, 0),
		ticks(0, greatest, greatest, 0),
		ticks(1, 5, 7, 5),
		ticks(3, 5, 7, 15),
		ticks(3, 0, 7, 0),
		ticks(3, 5, 0, 0),
		ticks(greatest, 0, greatest, 0),
		ticks(greatest, greatest, 0, 0),
		ticks(999999, 7, 7, 6999993),
		ticks(1000000, 7, 7, 7000000),
		ticks(1000001, 7, 7, 7000000),
		ticks(1000000, 7, 8, 7000000),
		ticks(1, 999999, 1, 999999),
		ticks(1, 1000000, 1, 1000000),
		ticks(1, 1000001, 1, 1000000),
		ticks(666, 3000000, 2000, 1998000000),
		ticks(667, 3000000, 2000, 2000000000),
		ticks(1000, 3000000, 2000, 2000000000),
		ticks(api.Horizon, api.MaxRate, 64*1500, 96000000000),
	} {
		steps(t, s)
	}
}

// P16.1 (K1: Tick): each tick's rate counts for the time ahead of it, from the tick ahead on, and its quantum for all credit.
func TestTicks(t *testing.T) {
	steps(t,
		ticks(100, 3, 9, 300),
		ticks(110, 50, 9, 800), // 10 microseconds, at 50
		ticks(110, 999, 9, 800),
		ticks(111, 0, 9, 800),
		ticks(121, 1, 9, 810),
		ticks(1000121, 8, 9, 8000810),
		ticks(1000122, 999189, 9, 8999999),
		ticks(1000123, 1, 9, 9000000),
		ticks(1000124, 1, 9, 9000000),
	)
	// what was above the quantum is gone, with a greater one, too
	steps(t,
		ticks(1000000, 10, 3, 3000000),
		ticks(1000000, 10, 20, 3000000),
		ticks(1000001, 10, 20, 3000010),
	)
	// a lesser quantum: with time between, and without
	steps(t,
		ticks(1000000, 10, 10, 10000000),
		ticks(1000001, 10, 4, 4000000),
		ticks(1000001, 10, 3, 3000000),
		ticks(1000001, 0, 2, 2000000),
		ticks(1000002, 0, 1, 1000000),
		ticks(1000002, 5, 0, 0),
		ticks(1000003, 5, 9, 5),
	)
	// what is there is kept, up to the quantum, though less was earned
	steps(t,
		ticks(1000000, 2, 5, 2000000),
		ticks(1000001, 1, 5, 2000001),
		ticks(2000000, 3, 5, 4999998),
		ticks(2000001, 2, 5, 5000000),
		ticks(2000002, 2, 5, 5000000),
	)
}

// P16.1 (K1: Tick, ErrRange) and DOC.md, rule 3: a tick below its time changes nothing, neither credit, nor time, rate, quantum.
func TestTickBehind(t *testing.T) {
	p := steps(t,
		ticks(1000, 3000, 2000, 3000000),
		refuses(999, 3000, 2000, 3000000),
		refuses(999, 5, 1, 3000000), // a quantum that would lessen the credit
		refuses(0, greatest, greatest, 3000000),
		refuses(0, 0, 0, 3000000),
	)
	will(t, p, 0, 1000) // the time
	will(t, p, 3, 1000)
	will(t, p, 4, 1334) // the rate
	will(t, p, 2000, 666667)
	never(t, p, 2001) // the quantum
	p.Fill()
	if got := p.Credit(); got != 2000000000 {
		t.Errorf("Fill behind a tick that was refused: %d", got)
	}
	steps(t,
		ticks(1000, 3000, 2000, 3000000),
		refuses(500, 7, 7, 3000000),
		ticks(1000, 7, 2000, 3000000), // at its time, which is no less
		ticks(1001, 7, 2000, 3000007), // from 1000 on, not from 500
		refuses(1000, 7, 2000, 3000007),
	)
	steps(t, ticks(greatest, 1, greatest, greatest), refuses(greatest-1, 1, 1, greatest), refuses(0, 1, 1, greatest), ticks(greatest, 1, 1, 1000000))
}

// P16.1 (K1, K2): the rate of a tick counts for the time ahead of it, and from it on for what Next tells; so does its quantum.
func TestTermsOfLastTick(t *testing.T) {
	p := steps(t, ticks(100, 2000, 5, 200000))
	will(t, p, 1, 500)
	never(t, p, 6)
	p = steps(t, ticks(100, 2000, 5, 200000), ticks(100, 8000, 6, 200000))
	will(t, p, 1, 200)
	will(t, p, 6, 825)
	never(t, p, 7)
	p = steps(t, ticks(100, 2000, 5, 200000), ticks(150, 0, 2, 200000))
	will(t, p, 0, 150)
	never(t, p, 1)
	p.Tick(150, 1, 2)
	will(t, p, 1, 800150)
	will(t, p, 2, 1800150)
	never(t, p, 3)
}

// P16.1 (K1; DOC.md, rule 10): the rate times the time, and the quantum times 1000000, run over.
func TestTickOver(t *testing.T) {
	for _, s := range []step{
		// the quantum alone
		ticks(1, 77, fitting, 77),
		ticks(1, 77, fitting+1, 77),
		ticks(1, 77, wrapping, 77),
		ticks(1, 77, greatest, 77),
		ticks(1, greatest, fitting, fitting*millionths),
		ticks(1, greatest, fitting+1, greatest),
		ticks(1, greatest, wrapping, greatest),
		ticks(1, greatest, greatest, greatest),
		ticks(1, greatest-1, fitting+1, greatest-1),
		// the rate times the time
		ticks(1<<32, 1<<32-1, greatest, greatest-(1<<32-1)),
		ticks(1<<32, 1<<32, greatest, greatest),
		ticks(1<<32, 1<<32, fitting+1, greatest),
		ticks(1<<32, 1<<32, fitting, fitting*millionths),
		ticks(1<<32, 1<<32, 3, 3000000),
		ticks(1<<32, 1<<32, 0, 0),
		ticks(3, greatest/3, greatest, greatest),
		ticks(3, greatest/3+1, greatest, greatest),
		ticks(3, greatest/3-1, greatest, greatest-3),
		ticks(greatest/5+1, 5, greatest, greatest),
		ticks(greatest, 1, greatest, greatest),
		ticks(greatest, 2, greatest, greatest),
		ticks(greatest, greatest, greatest, greatest),
		ticks(greatest, greatest, 1, 1000000),
	} {
		steps(t, s)
	}
}

// P16.1 (K1; DOC.md, rule 10): the credit, and what it is more by, run over together.
func TestSumOver(t *testing.T) {
	for _, x := range []struct{ more, quantum, credit uint64 }{
		{4, greatest, greatest - 1},
		{5, greatest, greatest},
		{6, greatest, greatest},
		{greatest, greatest, greatest},
		{4, fitting + 1, greatest - 1},
		{6, fitting + 1, greatest},
		{0, fitting, fitting * millionths},
		{6, fitting, fitting * millionths},
		{6, 2, 2000000},
		{greatest, 2, 2000000},
		{6, 0, 0},
	} {
		steps(t, ticks(1, greatest-5, greatest, greatest-5), ticks(2, x.more, x.quantum, x.credit))
	}
	steps(t,
		ticks(1, greatest, greatest, greatest),
		ticks(2, 0, greatest, greatest),
		ticks(3, 1, greatest, greatest),
		ticks(4, greatest, greatest, greatest),
		takes(1, greatest-1000000),
		ticks(5, 999999, greatest, greatest-1),
		ticks(6, 2, greatest, greatest),
	)
}

// P16.1 (K1: Take): of 0, of just what there is, of one more, and several in a row.
func TestTake(t *testing.T) {
	steps(t,
		ticks(1000, 3000000, 2000, 2000000000),
		takes(0, 2000000000),
		lacks(2001, 2000000000),
		takes(1500, 500000000),
		lacks(501, 500000000),
		lacks(1500, 500000000),
		takes(1, 499000000),
		takes(499, 0),
		takes(0, 0),
		lacks(1, 0),
		lacks(greatest, 0),
	)
	steps(t, ticks(1000, 3000000, 2000, 2000000000), takes(2000, 0), lacks(1, 0))
	// millionths that are no byte stay
	steps(t, ticks(999999, 1, 9, 999999), takes(0, 999999), lacks(1, 999999), ticks(1000000, 1, 9, 1000000), lacks(2, 1000000), takes(1, 0))
	steps(t, ticks(1999999, 1, 9, 1999999), lacks(2, 1999999), takes(1, 999999), lacks(1, 999999), ticks(2000000, 2, 9, 1000001), takes(1, 1), lacks(1, 1))
	// what was taken may be earned again, by ticks alone
	steps(t, ticks(10, 500000, 5, 5000000), takes(5, 0), lacks(5, 0), ticks(10, 500000, 5, 0), lacks(1, 0), ticks(12, 500000, 5, 1000000), takes(1, 0), lacks(1, 0))
}

// P16.1 (K1: Take; DOC.md, rule 10): the size times 1000000 runs over.
func TestTakeOver(t *testing.T) {
	// a lesser credit is not enough, however it would wrap round
	for _, credit := range []uint64{0, 1, 1000000, fitting * millionths, greatest - 1} {
		s := ticks(1, credit, greatest, credit)
		steps(t, s, lacks(fitting+1, credit), lacks(wrapping, credit), lacks(wrapping+1, credit), lacks(1<<63, credit), lacks(greatest, credit))
	}
	// the greatest one is, as what is greater is told as that
	for _, size := range []uint64{fitting + 1, wrapping, wrapping + 1, 1 << 63, greatest} {
		steps(t, ticks(1, greatest, greatest, greatest), takes(size, 0), lacks(1, 0))
	}
	steps(t, ticks(1, greatest, greatest, greatest), takes(fitting, greatest%millionths), lacks(1, greatest%millionths))
	steps(t, ticks(1, greatest, fitting, fitting*millionths), lacks(fitting+1, fitting*millionths), takes(fitting, 0))
	steps(t, ticks(1, fitting*millionths-1, greatest, fitting*millionths-1), lacks(fitting, fitting*millionths-1), takes(fitting-1, 999999))
}

// P16.1 (K2: Next): enough credit, and too little, which takes a while, rounded up.
func TestNext(t *testing.T) {
	p := steps(t, ticks(1000, 3000000, 2000, 2000000000), takes(1500, 500000000))
	will(t, p, 0, 1000)
	will(t, p, 1, 1000)
	will(t, p, 499, 1000)
	will(t, p, 500, 1000)  // just what there is
	will(t, p, 501, 1001)  // a third of a microsecond
	will(t, p, 502, 1001)  // two thirds
	will(t, p, 503, 1001)  // just one
	will(t, p, 504, 1002)  // one, and a third
	will(t, p, 1500, 1334) // 333, and a third
	will(t, p, 2000, 1500) // the quantum
	never(t, p, 2001)
	never(t, p, greatest)
	if got := p.Credit(); got != 500000000 {
		t.Errorf("Next has changed the credit: %d", got)
	}
	for _, x := range []struct{ rate, size, at uint64 }{
		{1, 1, 1000000},
		{2, 1, 500000},
		{3, 1, 333334},
		{3, 2, 666667},
		{3, 3, 1000000},
		{7, 1, 142858},
		{4, 9, 2250000},
		{999999, 1, 2},
		{1000000, 1, 1},
		{1000001, 1, 1},
		{1999999, 2, 2},
		{2000000, 2, 1},
		{greatest, 9, 1},
		{greatest, 0, 0},
		{41550000, 1500, 37}, // the document's seventh example
		{41550000, 15000, 362},
	} {
		will(t, steps(t, ticks(0, x.rate, 15000, 0)), x.size, x.at)
		// from the pacer's time on; a rate of 0 there left it without credit
		will(t, steps(t, ticks(77, 0, 1, 0), ticks(77, x.rate, 15000, 0)), x.size, 77+x.at)
	}
}

// P16.1 (K2: Next): a millionth too little, and more, is waited for.
func TestNextByMillionths(t *testing.T) {
	for _, x := range []struct{ credit, rate, at uint64 }{
		{1000001, 1, 1},
		{1000000, 1, 1},
		{999999, 1, 2},
		{999998, 1, 3},
		{999998, 2, 2},
		{999997, 2, 3},
		{999999, greatest, 2},
		{0, 999999, 3},
		{0, 1000000, 2},
		{1, 999999, 2},
	} {
		p := steps(t, ticks(1, x.credit, 3, x.credit), ticks(1, x.rate, 3, x.credit))
		will(t, p, 1, x.at)
	}
}

// P16.1 (K2: Next): a size above the quantum never may go, and one below does not at a rate of 0, if it has to wait.
func TestNever(t *testing.T) {
	p := steps(t, ticks(1000, 3000, 3, 3000000))
	will(t, p, 3, 1000)
	never(t, p, 4)
	p = steps(t, ticks(1000, 3000, 3, 3000000), takes(1, 2000000), ticks(1000, 0, 3, 2000000))
	will(t, p, 0, 1000)
	will(t, p, 2, 1000) // no wait
	never(t, p, 3)      // a wait
	never(t, p, 4)      // both
	p = steps(t, ticks(1000, 3000, 0, 0))
	will(t, p, 0, 1000)
	never(t, p, 1)
	p = steps(t, ticks(1000, 0, 9, 0))
	will(t, p, 0, 1000)
	never(t, p, 1)
	never(t, p, 9)
	// a millionth is a wait, too
	p = steps(t, ticks(1, 999999, 9, 999999), ticks(2, 0, 9, 999999))
	will(t, p, 0, 2)
	never(t, p, 1)
	// the quantum is the last tick's
	p = steps(t, ticks(1000, 3000, 3, 3000000), ticks(1000, 3000, 2, 2000000))
	will(t, p, 2, 1000)
	never(t, p, 3)
	// of great numbers: the credit is the greatest one, but the size is above the quantum
	p = steps(t, ticks(1, greatest, fitting+1, greatest))
	will(t, p, fitting+1, 1)
	never(t, p, fitting+2)
	never(t, p, wrapping)
	never(t, p, greatest)
}

// P16.1 (K2: Next; DOC.md, rule 10): a time, or what is waited for, that runs over.
func TestNextOver(t *testing.T) {
	for _, x := range []struct{ now, rate, size, at uint64 }{
		// the time
		{greatest - 1000001, 1, 1, greatest - 1},
		{greatest - 1000000, 1, 1, greatest},
		{greatest - 999999, 1, 1, greatest},
		{greatest - 5, 1, 1, greatest},
		{greatest - 5, 200000, 1, greatest},
		{greatest - 5, 199999, 1, greatest},
		{greatest - 6, 200000, 1, greatest - 1},
		{greatest, 1, 1, greatest},
		{greatest, greatest, greatest, greatest},
		{greatest, 1, 0, greatest},
		{5, 1, greatest, greatest},
		// the size times 1000000
		{0, 1, fitting, fitting * millionths},
		{0, 1, fitting + 1, greatest},
		{0, 1, wrapping, greatest},
		{0, 1, greatest, greatest},
		{0, 2, greatest, 1 << 63},
		{9, 1 << 32, wrapping, 1<<32 + 9},
		{9, greatest - 1, fitting + 1, 11},
		{9, greatest, fitting + 1, 10},
		{9, greatest, greatest, 10},
	} {
		p := steps(t, ticks(x.now, 0, 0, 0), ticks(x.now, x.rate, greatest, 0))
		will(t, p, x.size, x.at)
	}
	p := steps(t, ticks(1, greatest-1, greatest, greatest-1), ticks(1, 1, greatest, greatest-1))
	will(t, p, fitting, 1)
	will(t, p, fitting+1, 2) // a millionth is left to the greatest number
	will(t, p, greatest, 2)
	p = steps(t, ticks(1, greatest, greatest, greatest))
	will(t, p, greatest, 1)
}

// P16.1 (K2: Fill): ahead of ticks, and behind them, with a quantum that runs over, too.
func TestFill(t *testing.T) {
	steps(t, fills(0), ticks(10, 5, 9, 50), fills(9000000), fills(9000000), takes(9, 0), fills(9000000), ticks(11, 5, 9, 9000000), ticks(11, 5, 4, 4000000), fills(4000000))
	steps(t, fills(0), ticks(1, 5, 3, 5), ticks(2, 5, 7, 10), fills(7000000), takes(6, 1000000), lacks(2, 1000000), refuses(1, 5, 8, 1000000), fills(7000000))
	steps(t, ticks(0, 0, 3, 0), fills(3000000), ticks(0, 0, 8, 3000000), fills(8000000), ticks(5, 0, 0, 0), fills(0))
	for _, x := range []struct{ quantum, credit uint64 }{
		{0, 0}, {1, 1000000}, {fitting - 1, (fitting - 1) * millionths}, {fitting, fitting * millionths}, {fitting + 1, greatest}, {wrapping, greatest}, {wrapping + 1, greatest}, {greatest, greatest},
	} {
		p := steps(t, ticks(7, 2, x.quantum, min(14, x.credit)), fills(x.credit))
		will(t, p, x.quantum, 7)
		will(t, p, 0, 7)
		if x.quantum < greatest {
			never(t, p, x.quantum+1)
		}
		steps(t, ticks(7, 0, x.quantum, 0), fills(x.credit), takes(x.quantum, 0), fills(x.credit))
	}
}

// edges are calls at the edges, and such as make and take what others need.
func edges() []call {
	return []call{
		tick(0, 0, 0), tick(0, 1000000, 2), tick(1, 1000000, 2), tick(1, 1, 1), tick(2, 999999, 3), tick(3, 0, 3), tick(3, 2500000, 1),
		tick(4, greatest, fitting), tick(5, greatest, greatest), tick(1<<32, 1<<32, wrapping), tick(greatest-1, 1, greatest), tick(greatest, greatest, 2),
		take(0), take(1), take(2), take(3), take(fitting), take(fitting + 1), take(wrapping), take(greatest), fill(),
	}
}

// P16.1, behind each of all rows of calls.
func TestRows(t *testing.T) {
	rows(3, edges(), func(l []call) { run(t, l) })
	few := []call{tick(0, 500000, 2), tick(1, 700000, 3), tick(2, 1500000, 2), tick(3, 0, 1), take(1), take(2), fill()}
	rows(5, few, func(l []call) {
		if len(l) == 5 {
			run(t, l)
		}
	})
}

// P16.1, behind each of many calls.
func TestMixed(t *testing.T) {
	for i, s := range scales() {
		for n := range 40 {
			run(t, mixed(500, mixer(100*i+n), s))
		}
	}
}

// P1: every call ends, and does not panic, on a nil pacer, which answers ErrArg, 0, false, nothing (K2).
func TestNil(t *testing.T) {
	var p *pacer.Pacer
	for _, c := range edges() {
		want := answer{}
		if c.name == "Tick" {
			want.errno = api.ErrArg
		}
		if got := c.do(p); got != want {
			t.Errorf("nil: %v: %v, not %v", c, got, want)
		}
		if got := look(p, plainly(c).sizes()); got != (told{}) {
			t.Errorf("nil, behind %v: %v", c, got)
		}
	}
}

// P2: a pacer hangs on its own calls alone, not on another one's, and not on how often it is asked.
func TestOwnCallsAlone(t *testing.T) {
	few := []call{tick(0, 500000, 2), tick(1, 700000, 3), tick(2, 1500000, greatest), take(1), take(greatest), fill()}
	rows(4, few, func(l []call) {
		p, other := pacer.New(), pacer.New()
		if p == other {
			t.Fatal("two new pacers are one")
		}
		back := slices.Clone(l)
		slices.Reverse(back)
		for i := range l {
			back[i].do(other)
			look(p, [12]uint64{1, 2, 3})
			l[i].do(p)
			look(other, [12]uint64{1, 2, 3})
		}
		for _, x := range []struct {
			p *pacer.Pacer
			l []call
		}{{p, l}, {other, back}, {pacer.New(), nil}} {
			q := plainly(x.l...)
			if got := look(x.p, q.sizes()); got != q.look() {
				t.Fatalf("%v beside another pacer: %v, not %v", x.l, got, q.look())
			}
		}
	})
}
