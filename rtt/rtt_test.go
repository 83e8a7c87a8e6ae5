package rtt_test

import (
	"math"
	"math/big"
	"slices"
	"testing"

	"goit/rtt"
)

// greatest is the greatest number.
const greatest = math.MaxUint64

// call is Double(), or Put(s).
type call struct {
	double bool
	s      uint64
}

func double() call      { return call{double: true} }
func put(s uint64) call { return call{s: s} }

func (c call) do(r *rtt.RTT) {
	if c.double {
		r.Double()
		return
	}
	r.Put(c.s)
}

// puts is one call for each round trip.
func puts(trips ...uint64) []call {
	var l []call
	for _, s := range trips {
		l = append(l, put(s))
	}
	return l
}

// told is all that an estimate tells.
type told struct {
	last                         uint64
	some                         bool
	smooth, spread, limit, delay uint64
}

func look(r *rtt.RTT) told {
	last, some := r.Last()
	return told{last, some, r.Smooth(), r.Spread(), r.Limit(), r.Delay()}
}

// without is what an estimate tells that has no round trip, and was not doubled.
var without = told{limit: 1000000, delay: 1000}

// plain is an estimate as the words say it, in numbers without a bound.
type plain struct {
	last, smooth, spread *big.Int // last is nil, as long as there was none
	doubled              int
}

func start() plain { return plain{smooth: new(big.Int), spread: new(big.Int)} }

func large(x uint64) *big.Int { return new(big.Int).SetUint64(x) }

// bounded is a number that is not negative, or the greatest one, if it is above that.
func bounded(x *big.Int) *big.Int {
	if x.Cmp(large(greatest)) > 0 {
		return large(greatest)
	}
	return x
}

// larger is the larger one of two.
func larger(a, b *big.Int) *big.Int {
	if a.Cmp(b) < 0 {
		return b
	}
	return a
}

// part is (times times a, and b) by of, rounded down; product and sum are bounded ahead of that.
func part(times uint64, a, b *big.Int, of uint64) *big.Int {
	x := bounded(new(big.Int).Mul(large(times), a))
	x = bounded(new(big.Int).Add(x, b))
	return x.Div(x, large(of))
}

// do is what a call makes of it.
func (p plain) do(c call) plain {
	s := large(c.s)
	switch {
	case c.double:
		if p.doubled < 6 {
			p.doubled++
		}
		return p
	case p.last == nil:
		return plain{last: s, smooth: s, spread: new(big.Int).Div(s, large(2))}
	}
	differ := new(big.Int).Sub(p.smooth, s)
	return plain{last: s, smooth: part(7, p.smooth, s, 8), spread: part(3, p.spread, differ.Abs(differ), 4)}
}

// limit is the limit, bounded at its end alone.
func (p plain) limit() uint64 {
	x := large(1000000)
	if p.last != nil {
		x.Mul(p.spread, large(4))
		x = new(big.Int).Add(p.smooth, larger(x, large(1000)))
		x = larger(x, large(10000))
	}
	return bounded(new(big.Int).Lsh(x, uint(p.doubled))).Uint64()
}

// delay is the delay, bounded at its end alone.
func (p plain) delay() uint64 {
	x := p.smooth
	if p.last != nil {
		x = larger(x, p.last)
	}
	x = new(big.Int).Mul(x, large(9))
	x.Add(x, large(7)) // rounded up
	x.Div(x, large(8))
	return bounded(larger(x, large(1000))).Uint64()
}

// look is what it should tell.
func (p plain) look() told {
	s := told{smooth: p.smooth.Uint64(), spread: p.spread.Uint64(), limit: p.limit(), delay: p.delay()}
	if p.last != nil {
		s.last, s.some = p.last.Uint64(), true
	}
	return s
}

// run makes calls on a new estimate, and holds what it tells behind each against a plain one. It asks twice: asking changes nothing.
func run(t *testing.T, l []call) {
	t.Helper()
	r, p := rtt.New(), start()
	for i, c := range l {
		c.do(r)
		p = p.do(c)
		if got, again := look(r), look(r); got != p.look() || again != got {
			t.Fatalf("behind %v: %v, then %v, not %v", l[:i+1], got, again, p.look())
		}
	}
}

// rows calls f with all rows of up to n of some calls, and with the plain estimate behind them.
func rows(n int, of []call, f func(l []call, p plain)) {
	l := make([]call, 0, n)
	var grow func(p plain)
	grow = func(p plain) {
		f(l, p)
		if len(l) == n {
			return
		}
		for _, c := range of {
			l = append(l, c)
			grow(p.do(c))
			l = l[:len(l)-1]
		}
	}
	grow(start())
}

// step is a call, and what is told then.
type step struct {
	call
	told
}

// gives is a step behind a round trip.
func gives(c call, last, smooth, spread, limit, delay uint64) step {
	return step{c, told{last, true, smooth, spread, limit, delay}}
}

// steps holds a new estimate against them, one by one; the same calls are held against a plain one, so that this one is looked at as well.
func steps(t *testing.T, l ...step) {
	t.Helper()
	r := rtt.New()
	if r == nil {
		t.Fatal("a new estimate is nil")
	}
	if got := look(r); got != without {
		t.Fatalf("a new estimate: %v", got)
	}
	var calls []call
	for i, s := range l {
		s.do(r)
		if got := look(r); got != s.told {
			t.Fatalf("step %d, %v: %v, not %v", i, s.call, got, s.told)
		}
		calls = append(calls, s.call)
	}
	run(t, calls)
}

// behind is an estimate behind calls.
func behind(l ...call) *rtt.RTT {
	r := rtt.New()
	for _, c := range l {
		c.do(r)
	}
	return r
}

// steady is so many round trips of the same time that the spread is 0.
func steady(s uint64) []call { return slices.Repeat(puts(s), 200) }

// P9.1 (E1, E2): an estimate without a round trip, at every call.
func TestNoTrips(t *testing.T) {
	steps(t)
	steps(t,
		step{double(), told{limit: 2000000, delay: 1000}},
		step{double(), told{limit: 4000000, delay: 1000}},
		step{double(), told{limit: 8000000, delay: 1000}},
		step{double(), told{limit: 16000000, delay: 1000}},
		step{double(), told{limit: 32000000, delay: 1000}},
		step{double(), told{limit: 64000000, delay: 1000}},
		step{double(), told{limit: 64000000, delay: 1000}}, // 6 times at most
		step{double(), told{limit: 64000000, delay: 1000}},
	)
}

// P9.1 (Words): the fourth of the document's examples of the whole.
func TestExample(t *testing.T) {
	steps(t,
		gives(put(80000), 80000, 80000, 40000, 240000, 90000),
		gives(put(40000), 40000, 75000, 40000, 235000, 84375),
	)
}

// P9.1 (Words): the first round trip is the smooth one, and half of it, rounded down, the spread.
func TestFirst(t *testing.T) {
	for _, s := range []step{
		gives(put(0), 0, 0, 0, 10000, 1000), // a round trip, although it took no time
		gives(put(1), 1, 1, 0, 10000, 1000),
		gives(put(2), 2, 2, 1, 10000, 1000),
		gives(put(3), 3, 3, 1, 10000, 1000),
		gives(put(4), 4, 4, 2, 10000, 1000),
		gives(put(80000), 80000, 80000, 40000, 240000, 90000),
		gives(put(80001), 80001, 80001, 40000, 240001, 90002),
		gives(put(1<<60), 1<<60, 1<<60, 1<<59, 3<<60, 9<<57),
		gives(put(1<<63), 1<<63, 1<<63, 1<<62, greatest, 9<<60),
		gives(put(greatest-1), greatest-1, greatest-1, 1<<63-1, greatest, greatest),
		gives(put(greatest), greatest, greatest, 1<<63-1, greatest, greatest),
	} {
		steps(t, s)
	}
}

// P9.1 (Words): others are above the smooth one, at it, and below it.
func TestOthers(t *testing.T) {
	steps(t,
		gives(put(1000), 1000, 1000, 500, 10000, 1125),
		gives(put(50000), 50000, 7125, 12625, 57625, 56250), // above
	)
	steps(t,
		gives(put(1000), 1000, 1000, 500, 10000, 1125),
		gives(put(1000), 1000, 1000, 375, 10000, 1125), // at it
		gives(put(1000), 1000, 1000, 281, 10000, 1125),
	)
	steps(t,
		gives(put(1000), 1000, 1000, 500, 10000, 1125),
		gives(put(200), 200, 900, 575, 10000, 1013), // below
	)
	// the first one is 0, and others are
	steps(t,
		gives(put(0), 0, 0, 0, 10000, 1000),
		gives(put(0), 0, 0, 0, 10000, 1000),
		gives(put(8), 8, 1, 2, 10000, 1000),
		gives(put(0), 0, 0, 1, 10000, 1000),
		gives(put(0), 0, 0, 0, 10000, 1000),
	)
}

// P9.1 (Words): shares that are not whole are rounded down, by whatever is left.
func TestRoundedDown(t *testing.T) {
	steps(t,
		gives(put(8000), 8000, 8000, 4000, 24000, 9000),
		gives(put(8001), 8001, 8000, 3000, 20000, 9002),
		gives(put(8002), 8002, 8000, 2250, 17000, 9003),
		gives(put(7999), 7999, 7999, 1687, 14747, 8999),
		gives(put(8007), 8007, 8000, 1267, 13068, 9008),
		gives(put(7), 7, 7000, 2948, 18792, 7875),
	)
	// one microsecond more makes the smooth one rise just where the eighth is whole, and the spread where the fourth is
	for i := range uint64(17) {
		r := behind(put(800), put(800+i))
		if smooth, spread := r.Smooth(), r.Spread(); smooth != 800+i/8 || spread != 300+i/4 {
			t.Errorf("800, and %d: %d and %d", 800+i, smooth, spread)
		}
	}
	// below it the smooth one falls at once, and the spread rises as above it
	for i := range uint64(17) {
		r := behind(put(800), put(800-i))
		if smooth, spread := r.Smooth(), r.Spread(); smooth != 800-(i+7)/8 || spread != 300+i/4 {
			t.Errorf("800, and %d: %d and %d", 800-i, smooth, spread)
		}
	}
}

// P9.1 (Words): the spread is worked out ahead of the smooth one, by the smooth one that was.
func TestSpreadFirst(t *testing.T) {
	// by the smooth one that is then (7000), it would be 7000 by 4, and 3000
	steps(t,
		gives(put(8000), 8000, 8000, 4000, 24000, 9000),
		gives(put(0), 0, 7000, 5000, 27000, 7875),
	)
}

// P9.1 (Words) and DOC.md, rule 10: a product, and a sum, of the smooth one that would run over is the greatest number, ahead of the division.
func TestSmoothOver(t *testing.T) {
	const most = greatest / 7 // 7 times it is the greatest number but one
	for _, x := range []struct{ first, then, smooth uint64 }{
		{most, 0, 1<<61 - 1},
		{most, 1, 1<<61 - 1}, // the sum is the greatest number
		{most, 2, 1<<61 - 1}, // without a bound it would be 2^61, wrapped round 0
		{most, most, 1<<61 - 1},
		{most, greatest, 1<<61 - 1},
		{most + 1, 0, 1<<61 - 1}, // the product runs over
		{most + 1, 9, 1<<61 - 1},
		{most + 1, most + 1, 1<<61 - 1},
		{most - 1, 9, 1<<61 - 1}, // the sum is the greatest number
		{most - 1, 10, 1<<61 - 1},
		{0, greatest, 1<<61 - 1},
		{1, greatest, 1<<61 - 1},
		{1, greatest - 7, 1<<61 - 1},
		{1, greatest - 14, 1<<61 - 1},
		{1, greatest - 15, 1<<61 - 2},
		{greatest, 0, 1<<61 - 1},
		{greatest, greatest, 1<<61 - 1},
		{1 << 63, 1 << 62, 1<<61 - 1},
	} {
		if got := behind(put(x.first), put(x.then)).Smooth(); got != x.smooth {
			t.Errorf("%d, and %d: %d, not %d", x.first, x.then, got, x.smooth)
		}
		run(t, puts(x.first, x.then, x.first, x.then))
	}
}

// P9.1 (Words) and DOC.md, rule 10: a product, and a sum, of the spread that would run over is the greatest number, ahead of the division.
func TestSpreadOver(t *testing.T) {
	const twice = greatest / 3 * 2 // 3 times the half of it is the greatest number
	for _, x := range []struct{ first, then, spread uint64 }{
		{twice, twice, 1<<62 - 1},
		{twice, twice + 1, 1<<62 - 1}, // without a bound it would be 2^62, wrapped round 0
		{twice, twice - 1, 1<<62 - 1},
		{twice, greatest, 1<<62 - 1},
		{twice, 0, 1<<62 - 1},
		{twice - 2, twice + 1, 1<<62 - 1}, // the sum is the greatest number
		{twice - 2, twice + 2, 1<<62 - 1},
		{twice - 2, twice - 2, 1<<62 - 1},
		{twice - 4, twice - 4, 1<<62 - 2},
		{twice + 1, twice + 1, 1<<62 - 1},
		{twice + 2, twice + 2, 1<<62 - 1}, // the product runs over
		{greatest, greatest, 1<<62 - 1},
		{greatest, 0, 1<<62 - 1},
		{0, greatest, 1<<62 - 1}, // nothing runs over: what they differ by is the greatest number
		{0, greatest - 3, 1<<62 - 1},
		{0, greatest - 4, 1<<62 - 2},
	} {
		if got := behind(put(x.first), put(x.then)).Spread(); got != x.spread {
			t.Errorf("%d, and %d: %d, not %d", x.first, x.then, got, x.spread)
		}
		run(t, puts(x.first, x.then, x.first, x.then))
	}
}

// P9.1 (E1, E2): with a round trip all is doubled up to 6 times, and not once more; nothing else changes.
func TestDouble(t *testing.T) {
	steps(t,
		gives(put(80000), 80000, 80000, 40000, 240000, 90000),
		gives(put(40000), 40000, 75000, 40000, 235000, 84375),
		gives(double(), 40000, 75000, 40000, 470000, 84375),
		gives(double(), 40000, 75000, 40000, 940000, 84375),
		gives(double(), 40000, 75000, 40000, 1880000, 84375),
		gives(double(), 40000, 75000, 40000, 3760000, 84375),
		gives(double(), 40000, 75000, 40000, 7520000, 84375),
		gives(double(), 40000, 75000, 40000, 15040000, 84375),
		gives(double(), 40000, 75000, 40000, 15040000, 84375),
		gives(double(), 40000, 75000, 40000, 15040000, 84375),
	)
	// what is 10000 at least is that ahead of it
	steps(t,
		gives(put(0), 0, 0, 0, 10000, 1000),
		gives(double(), 0, 0, 0, 20000, 1000),
		gives(double(), 0, 0, 0, 40000, 1000),
		gives(double(), 0, 0, 0, 80000, 1000),
		gives(double(), 0, 0, 0, 160000, 1000),
		gives(double(), 0, 0, 0, 320000, 1000),
		gives(double(), 0, 0, 0, 640000, 1000),
		gives(double(), 0, 0, 0, 640000, 1000),
	)
	for _, l := range [][]call{nil, puts(100000)} {
		r := behind(append(slices.Clip(l), slices.Repeat([]call{double()}, 100000)...)...)
		if got, want := r.Limit(), 64*behind(l...).Limit(); got != want {
			t.Errorf("%v, and doubled very often: %d, not %d", l, got, want)
		}
	}
}

// P9.1 (Words): behind a round trip that is put it was not doubled, however often it was, and may be as often again.
func TestPutBehindDouble(t *testing.T) {
	for n := range 9 {
		doubled := slices.Repeat([]call{double()}, n)
		first := behind(append(slices.Clip(doubled), put(100000))...)
		if got, want := look(first), look(behind(put(100000))); got != want {
			t.Errorf("doubled %d times, and the first: %v, not %v", n, got, want)
		}
		other := behind(slices.Concat(puts(100000), doubled, puts(60000))...)
		if got, want := look(other), look(behind(puts(100000, 60000)...)); got != want {
			t.Errorf("doubled %d times, and another one: %v, not %v", n, got, want)
		}
		run(t, slices.Concat(doubled, puts(100000), doubled, puts(60000), doubled, puts(0), doubled, doubled))
	}
	steps(t,
		step{double(), told{limit: 2000000, delay: 1000}},
		gives(put(1000), 1000, 1000, 500, 10000, 1125),
		gives(double(), 1000, 1000, 500, 20000, 1125),
		gives(put(50000), 50000, 7125, 12625, 57625, 56250),
		gives(double(), 50000, 7125, 12625, 115250, 56250),
		gives(double(), 50000, 7125, 12625, 230500, 56250),
	)
}

// P9.1 (E2): in the limit 4 times the spread is 1000 at least.
func TestLimitShare(t *testing.T) {
	for _, x := range []struct{ then, smooth, spread, limit uint64 }{
		{20000, 20000, 0, 21000},
		{20004, 20000, 1, 21000},
		{20992, 20124, 248, 21124},
		{20996, 20124, 249, 21124}, // 996
		{20999, 20124, 249, 21124},
		{21000, 20125, 250, 21125}, // 1000
		{21003, 20125, 250, 21125},
		{21004, 20125, 251, 21129}, // 1004
		{21008, 20126, 252, 21134},
		{28000, 21000, 2000, 29000},
	} {
		l := append(steady(20000), put(x.then))
		r := behind(l...)
		if smooth, spread, limit := r.Smooth(), r.Spread(), r.Limit(); smooth != x.smooth || spread != x.spread || limit != x.limit {
			t.Errorf("20000 for long, then %d: %d %d %d, not %v", x.then, smooth, spread, limit, x)
		}
		run(t, l)
	}
}

// P9.1 (E2): the limit is 10000 at least, which is held against the sum.
func TestLimitLeast(t *testing.T) {
	for _, x := range []struct{ steady, limit uint64 }{
		{0, 10000},
		{8000, 10000},
		{8998, 10000},
		{8999, 10000}, // 9999
		{9000, 10000}, // 10000
		{9001, 10001},
		{9002, 10002},
		{10000, 11000},
	} {
		if got := behind(steady(x.steady)...).Limit(); got != x.limit {
			t.Errorf("%d for long: %d, not %d", x.steady, got, x.limit)
		}
	}
	for _, x := range []struct{ first, limit uint64 }{
		{3330, 10000},
		{3332, 10000}, // 9996
		{3333, 10000}, // 9997
		{3334, 10002},
		{3335, 10003},
		{3336, 10008},
	} {
		r := behind(put(x.first))
		if got := r.Limit(); got != x.limit {
			t.Errorf("%d: %d, not %d", x.first, got, x.limit)
		}
		r.Double()
		if got := r.Limit(); got != 2*x.limit {
			t.Errorf("%d, doubled: %d, not %d", x.first, got, 2*x.limit)
		}
	}
}

// P9.1 (E2): the limit does not run over, in its product, its sum, or as often as it was doubled.
func TestLimitOver(t *testing.T) {
	for _, x := range []struct {
		first  uint64
		limits []uint64 // doubled 0 times, and so on up to 7; the greatest number behind these
	}{
		{1 << 55, []uint64{3 << 55, 3 << 56, 3 << 57, 3 << 58, 3 << 59, 3 << 60, 3 << 61, 3 << 61}},
		{1 << 56, []uint64{3 << 56, 3 << 57, 3 << 58, 3 << 59, 3 << 60, 3 << 61, 3 << 62, 3 << 62}},
		{1 << 57, []uint64{3 << 57, 3 << 58, 3 << 59, 3 << 60, 3 << 61, 3 << 62}},
		{1 << 61, []uint64{3 << 61, 3 << 62}},
		{1 << 62, []uint64{3 << 62}},
		{greatest/3 - 1, []uint64{greatest - 3}},
		{greatest / 3, []uint64{greatest - 2}},
		{greatest/3 + 1, nil}, // the sum runs over
		{1<<63 - 1, nil},      // the sum, by a product that just does not
		{1 << 63, nil},        // the product
		{greatest, nil},
	} {
		r := behind(put(x.first))
		for i := range 8 {
			want := uint64(greatest)
			if i < len(x.limits) {
				want = x.limits[i]
			}
			if got := r.Limit(); got != want {
				t.Errorf("%d, doubled %d times: %d, not %d", x.first, i, got, want)
			}
			r.Double()
		}
		run(t, append(puts(x.first), slices.Repeat([]call{double()}, 8)...))
	}
}

// P9.1 (E2): the delay is of the greater one of the smooth one and the last one.
func TestDelayOfGreater(t *testing.T) {
	for _, x := range []struct {
		trips []uint64
		delay uint64
	}{
		{[]uint64{80000, 40000}, 84375},        // the smooth one: 75000
		{[]uint64{40000, 80000}, 90000},        // the last one: 80000
		{[]uint64{40000, 40000}, 45000},        // both
		{[]uint64{80000, 0}, 78750},            // the smooth one: 70000
		{[]uint64{0, 80000}, 90000},            // the last one
		{[]uint64{80000, 70000, 78750}, 88594}, // 78750 is the smooth one too
		{[]uint64{80000, 70000, 78751}, 88595},
		{[]uint64{80000, 70000, 78742}, 88593}, // the smooth one: 78749
	} {
		if got := behind(puts(x.trips...)...).Delay(); got != x.delay {
			t.Errorf("%d: %d, not %d", x.trips, got, x.delay)
		}
		run(t, puts(x.trips...))
	}
}

// P9.1 (E2): 9 times it, by 8, rounded up, and 1000 at least. (No round trip's is just 1000: 8000 by 9 is not whole.)
func TestDelayRoundedUp(t *testing.T) {
	for _, x := range []struct{ s, delay uint64 }{
		{0, 1000},
		{1, 1000},
		{887, 1000}, // 998
		{888, 1000}, // 999, with nothing left
		{889, 1001}, // 1000, and something left
		{890, 1002},
		{895, 1007},
		{896, 1008}, // nothing left
		{897, 1010}, // one eighth left
		{898, 1011},
		{903, 1016}, // seven eighths left
		{904, 1017},
		{100001, 112502},
		{1 << 60, 9 << 57},
		{1<<60 + 1, 9<<57 + 2},
	} {
		if got := behind(put(x.s)).Delay(); got != x.delay {
			t.Errorf("%d: %d, not %d", x.s, got, x.delay)
		}
		run(t, puts(x.s))
	}
}

// P9.1 (E2): the delay does not run over ahead of its division (1: Over), nor behind it.
func TestDelayOver(t *testing.T) {
	const most = 16397105843297379213 // 8 times the greatest number, by 9
	for _, x := range []struct{ s, delay uint64 }{
		{greatest / 9, 1 << 61},     // the product is not above the greatest number
		{greatest/9 + 1, 1<<61 + 1}, // it is
		{1 << 61, 9 << 58},
		{1 << 63, 9 << 60},
		{1<<63 + 8, 9<<60 + 9},
		{most - 8, greatest - 9},
		{most - 1, greatest - 1},
		{most, greatest},
		{most + 1, greatest},
		{greatest - 1, greatest},
		{greatest, greatest},
	} {
		if got := behind(put(x.s)).Delay(); got != x.delay {
			t.Errorf("%d: %d, not %d", x.s, got, x.delay)
		}
		run(t, puts(x.s))
	}
}

// edges are calls at, below and above the edges that the document names, and at those of numbers.
func edges() []call {
	return append([]call{double()}, puts(0, 1, 2, 7, 8, 888, 889, 1001, 3333, 3334, 8999, 9001, 40000, 1<<56, 1<<60, greatest/7+1, 1<<62+5, 12297829382473034411, greatest-1, greatest)...)
}

// P9.1, behind all rows of calls.
func TestRows(t *testing.T) {
	rows(4, edges(), func(l []call, p plain) {
		if got := look(behind(l...)); got != p.look() {
			t.Fatalf("behind %v: %v, not %v", l, got, p.look())
		}
	})
	rows(6, append(puts(0, 700, 3000, 1<<62, greatest), double()), func(l []call, p plain) {
		if got := look(behind(l...)); got != p.look() {
			t.Fatalf("behind %v: %v, not %v", l, got, p.look())
		}
	})
}

// numbers calls f with so many numbers, of all lengths, in an order that shows no rule.
func numbers(n int, f func(x uint64)) {
	x := uint64(1)
	for range n {
		x = x*6364136223846793005 + 1442695040888963407
		f(x >> (x >> 32 % 64))
	}
}

// mixed is calls of both sorts, with round trips of at most so much.
func mixed(n int, most uint64) []call {
	var l []call
	numbers(n, func(x uint64) {
		if x%5 == 0 {
			l = append(l, double())
			return
		}
		l = append(l, put(x&most))
	})
	return l
}

// P9.1, behind each of many calls.
func TestLong(t *testing.T) {
	for _, most := range []uint64{7, 1<<10 - 1, 1<<14 - 1, 1<<20 - 1, 1<<42 - 1, 1<<60 - 1, greatest} {
		run(t, mixed(20000, most))
	}
}

// P9.1: a million round trips.
func TestMany(t *testing.T) {
	r, p := rtt.New(), start()
	numbers(1000000, func(x uint64) {
		r.Put(x & (1<<20 - 1))
		p = p.do(put(x & (1<<20 - 1)))
	})
	if got := look(r); got != p.look() {
		t.Errorf("%v, not %v", got, p.look())
	}
}

// between holds an estimate's smooth one, behind each of some round trips, against the greatest and the least of these.
func between(t *testing.T, trips []uint64) {
	t.Helper()
	r, least, most := rtt.New(), uint64(greatest), uint64(0)
	for i, s := range trips {
		r.Put(s)
		least, most = min(least, s), max(most, s)
		if smooth := r.Smooth(); smooth > most || smooth+7 < least {
			t.Fatalf("behind %d: %d, with round trips from %d to %d", trips[max(0, i-9):i+1], smooth, least, most)
		}
	}
}

// P9.2: of round trips up to 2^60, in any order, the smooth one is not above the greatest one, nor below the least one by more than 7.
func TestBetween(t *testing.T) {
	for _, of := range [][]uint64{
		{0, 1, 7, 8, 9, 1000, 1 << 59, 1<<60 - 1, 1 << 60},
		{100, 101, 106, 107, 108, 109, 115},
		{1<<60 - 16, 1<<60 - 9, 1<<60 - 8, 1<<60 - 7, 1<<60 - 1, 1 << 60},
	} {
		rows(6, puts(of...), func(l []call, _ plain) {
			var trips []uint64
			for _, c := range l {
				trips = append(trips, c.s)
			}
			between(t, trips)
		})
	}
	for _, most := range []uint64{1, 7, 15, 1<<10 - 1, 1<<42 - 1, 1<<60 - 1} {
		for _, least := range []uint64{0, 1, 1000, 1<<60 - most} {
			var trips []uint64
			numbers(5000, func(x uint64) { trips = append(trips, min(1<<60, least+x&most)) })
			between(t, trips)
			slices.Sort(trips)
			between(t, trips)
			slices.Reverse(trips)
			between(t, trips)
		}
	}
	for _, s := range []uint64{0, 1, 6, 7, 8, 9, 1000003, 1<<60 - 1, 1 << 60} {
		for _, first := range []uint64{0, s, 1 << 60} {
			between(t, append([]uint64{first}, slices.Repeat([]uint64{s}, 500)...))
		}
	}
}

// P9.1 (E2) and P1: a nil estimate answers, whatever it is asked.
func TestNil(t *testing.T) {
	var r *rtt.RTT
	for _, c := range edges() {
		c.do(r)
		if got := look(r); got != (told{}) {
			t.Errorf("nil, behind %v: %v", c, got)
		}
	}
	for range 10 {
		r.Double()
	}
	if got := look(r); got != (told{}) {
		t.Errorf("nil, doubled often: %v", got)
	}
}

// P2: an estimate hangs on its own calls alone, not on another one's, and not on how often it is asked.
func TestOwnCallsAlone(t *testing.T) {
	rows(4, append(puts(0, 500, 9001, 80000, 1<<61, greatest), double()), func(l []call, p plain) {
		r, other := rtt.New(), rtt.New()
		if r == other {
			t.Fatal("two new estimates are one")
		}
		q := start()
		for i, c := range l {
			back := l[len(l)-1-i]
			back.do(other)
			q = q.do(back)
			look(r)
			c.do(r)
			look(other)
		}
		if got := look(r); got != p.look() {
			t.Fatalf("%v: %v beside another estimate, not %v", l, got, p.look())
		}
		if got := look(other); got != q.look() {
			t.Fatalf("%v, backwards: %v beside another estimate, not %v", l, got, q.look())
		}
		if fresh := look(rtt.New()); fresh != without {
			t.Fatalf("%v: then a new estimate tells %v", l, fresh)
		}
	})
}
