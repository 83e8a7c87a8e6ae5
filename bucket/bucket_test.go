package bucket_test

import (
	"slices"
	"testing"

	"goit/api"
	"goit/bucket"
)

// step is a call, what it answers, and what the bucket tells then.
type step struct {
	call
	answer
	told
}

func goes(now, tokens, wasted uint64) step { return step{to(now), answer{}, told{tokens, wasted}} }

func takes(size, tokens, wasted uint64) step {
	return step{take(size), answer{taken: true}, told{tokens, wasted}}
}

func lacks(size, tokens, wasted uint64) step {
	return step{take(size), answer{}, told{tokens, wasted}}
}

func wastes(n, gone, tokens, wasted uint64) step {
	return step{waste(n), answer{wasted: gone}, told{tokens, wasted}}
}

// steps holds a new bucket of a rate against them, one by one; the same calls are held against a plain one, so that this one is looked at as well.
func steps(t *testing.T, rate uint64, l ...step) {
	t.Helper()
	b := bucket.New(rate)
	if b == nil {
		t.Fatal("a new bucket is nil")
	}
	var calls []call
	for i, s := range l {
		got := s.do(b)
		if then := look(b); got != s.answer || then != s.told {
			t.Fatalf("rate %d, step %d, %v: %v, and %v then", rate, i, s, got, then)
		}
		calls = append(calls, s.call)
	}
	run(t, rate, calls)
}

// P18.1 (U1: New; Words): a bucket at first has no tokens, and none wasted; its time is 0.
func TestNew(t *testing.T) {
	for _, rate := range rates() {
		if got := look(bucket.New(rate)); got != (told{}) {
			t.Errorf("rate %d: %v", rate, got)
		}
		steps(t, rate, takes(0, 0, 0), lacks(1, 0, 0), lacks(fitting, 0, 0), lacks(wrapping, 0, 0), lacks(greatest, 0, 0))
		steps(t, rate, wastes(0, 0, 0, 0), wastes(1, 0, 0, 0), wastes(greatest, 0, 0, 0))
		steps(t, rate, goes(0, 0, 0), goes(1, rate, 0)) // its time is 0: at that nothing is between
	}
}

// P18.1 (U1: To), once, from 0 on: the rate times the time.
func TestTo(t *testing.T) {
	for _, x := range []struct{ rate, now, tokens uint64 }{
		{0, 1, 0},
		{0, greatest, 0},
		{1, 1, 1},
		{1, 1000000, 1000000},
		{1, api.Horizon, api.Horizon},
		{1, api.Horizon + 1, api.Horizon + 1}, // a bucket has no horizon
		{1, greatest - 1, greatest - 1},
		{1, greatest, greatest},
		{7, 9, 63},
		{500, 4000, 2000000},
		{1500000, 999, 1498500000},
		{1500000, 1000, 1500000000},
		{api.MaxRate, 1, api.MaxRate},
		{greatest - 1, 1, greatest - 1},
		{greatest, 1, greatest},
	} {
		steps(t, x.rate, goes(x.now, x.tokens, 0))
	}
}

// P18.1 (U1: To): at its time, and below it, nothing is changed, neither the tokens nor the time.
func TestToBehind(t *testing.T) {
	steps(t, 3,
		goes(10, 30, 0),
		goes(10, 30, 0),
		goes(9, 30, 0),
		goes(0, 30, 0),
		goes(10, 30, 0), // from 10 on, not from 0
		goes(11, 33, 0),
		goes(10, 33, 0),
		goes(11, 33, 0),
		goes(12, 36, 0),
	)
	// with fewer tokens than were earned, and some wasted
	steps(t, 500000,
		goes(10, 5000000, 0),
		takes(2, 3000000, 0),
		wastes(700000, 700000, 2300000, 700000),
		goes(9, 2300000, 700000),
		goes(0, 2300000, 700000),
		goes(10, 2300000, 700000),
		takes(2, 300000, 700000),
		goes(3, 300000, 700000),
		goes(11, 800000, 700000),
	)
	steps(t, 1, goes(greatest, greatest, 0), goes(greatest-1, greatest, 0), goes(0, greatest, 0), wastes(greatest, greatest, 0, greatest), goes(greatest, 0, greatest), goes(1, 0, greatest))
	steps(t, 0, goes(5, 0, 0), goes(4, 0, 0), goes(5, 0, 0), goes(6, 0, 0))
}

// P18.1 (U1: To): times one by one earn what one time at once does, whatever was taken between, as long as nothing runs over.
func TestTimesOneByOne(t *testing.T) {
	for _, rate := range []uint64{0, 1, 3, 999999, 1000000, 1500000, api.MaxRate, greatest / 5000, greatest / 3} {
		for _, times := range [][]uint64{{1, 2, 3, 4, 5}, {1, 5}, {2, 3, 7, 7, 6, 20}, {999, 1000}, {1, 1000, 5000}} {
			b, c, last := bucket.New(rate), bucket.New(rate), times[len(times)-1]
			for _, now := range times {
				b.To(now)
			}
			c.To(last)
			want := told{tokens: bounded(product(rate, last)).Uint64()}
			if got, once := look(b), look(c); got != want || once != want {
				t.Errorf("rate %d, times %v: %v, at once %v, not %v", rate, times, got, once, want)
			}
		}
	}
}

// P18.1 (U1: To; DOC.md, rule 10): what is earned, and what is there then, run over: both stop at the greatest number.
func TestToOver(t *testing.T) {
	// the rate times the time
	for _, x := range []struct{ rate, now, tokens uint64 }{
		{1<<32 - 1, 1 << 32, greatest - (1<<32 - 1)},
		{1 << 32, 1 << 32, greatest},
		{1 << 63, 2, greatest},
		{1<<63 + 1, 2, greatest},
		{greatest / 3, 3, greatest},
		{greatest/3 + 1, 3, greatest},
		{5, greatest / 5, greatest},
		{5, greatest/5 + 1, greatest},
		{2, greatest, greatest},
		{greatest, 2, greatest},
		{greatest, greatest, greatest},
	} {
		steps(t, x.rate, goes(x.now, x.tokens, 0))
	}
	// the sum
	steps(t, 7, goes(greatest/7-1, greatest/7*7-7, 0), goes(greatest/7, greatest/7*7, 0), goes(greatest/7+1, greatest, 0), goes(greatest, greatest, 0))
	steps(t, greatest-1, goes(1, greatest-1, 0), goes(2, greatest, 0), goes(3, greatest, 0))
	steps(t, greatest-1, goes(1, greatest-1, 0), wastes(greatest-2, greatest-2, 1, greatest-2), goes(2, greatest, greatest-2))
	steps(t, greatest-1, goes(1, greatest-1, 0), wastes(greatest-3, greatest-3, 2, greatest-3), goes(2, greatest, greatest-3))
	// what was above is gone, and the time goes on
	steps(t, greatest, goes(1, greatest, 0), goes(2, greatest, 0), takes(1, greatest-1000000, 0), goes(2, greatest-1000000, 0), goes(3, greatest, 0))
	steps(t, 1<<63, goes(1, 1<<63, 0), goes(2, greatest, 0), goes(9, greatest, 0), wastes(greatest, greatest, 0, greatest), goes(9, 0, greatest), goes(10, 1<<63, greatest))
}

// P18.1 (U1: Take): of 0, of as many tokens as there are, of one byte more, and several in a row.
func TestTake(t *testing.T) {
	steps(t, 500,
		goes(4000, 2000000, 0),
		takes(0, 2000000, 0),
		lacks(3, 2000000, 0),
		takes(1, 1000000, 0),
		lacks(2, 1000000, 0),
		takes(1, 0, 0),
		takes(0, 0, 0),
		lacks(1, 0, 0),
		lacks(greatest, 0, 0),
		goes(6000, 1000000, 0),
		takes(1, 0, 0),
	)
	steps(t, 500, goes(4000, 2000000, 0), takes(2, 0, 0), lacks(1, 0, 0))
	steps(t, 500, goes(4000, 2000000, 0), lacks(3, 2000000, 0), lacks(greatest, 2000000, 0))
	// a token too few, and tokens that are no byte, which stay
	steps(t, 1, goes(999999, 999999, 0), takes(0, 999999, 0), lacks(1, 999999, 0), goes(1000000, 1000000, 0), lacks(2, 1000000, 0), takes(1, 0, 0))
	steps(t, 1, goes(2000001, 2000001, 0), lacks(3, 2000001, 0), takes(1, 1000001, 0), takes(1, 1, 0), lacks(1, 1, 0), goes(2999999, 999999, 0), lacks(1, 999999, 0), goes(3000000, 1000000, 0), takes(1, 0, 0))
	// the document's eighth example: a packet of 1500 bytes, at 1500000 bytes a second
	steps(t, 1500000, lacks(1500, 0, 0), goes(999, 1498500000, 0), lacks(1500, 1498500000, 0), goes(1000, 1500000000, 0), lacks(1501, 1500000000, 0), takes(1500, 0, 0))
	// a rate of 0 never serves a byte
	steps(t, 0, goes(greatest, 0, 0), lacks(1, 0, 0), takes(0, 0, 0))
}

// P18.1 (U1: Take; DOC.md, rule 10): the size times 1000000 runs over.
func TestTakeOver(t *testing.T) {
	// fewer tokens are not enough, however they would wrap round
	for _, tokens := range []uint64{0, 1, 1000000, 1 << 63, fitting * millionths, greatest - 1} {
		steps(t, tokens, goes(1, tokens, 0), lacks(fitting+1, tokens, 0), lacks(wrapping, tokens, 0), lacks(wrapping+1, tokens, 0), lacks(1<<63, tokens, 0), lacks(greatest, tokens, 0))
	}
	// the greatest number is, as what is greater is told as that
	for _, size := range []uint64{fitting + 1, wrapping, wrapping + 1, 1 << 63, greatest} {
		steps(t, greatest, goes(1, greatest, 0), takes(size, 0, 0), lacks(1, 0, 0))
	}
	steps(t, greatest, goes(1, greatest, 0), takes(fitting, greatest%millionths, 0), lacks(1, greatest%millionths, 0))
	steps(t, fitting*millionths, goes(1, fitting*millionths, 0), lacks(fitting+1, fitting*millionths, 0), takes(fitting, 0, 0))
	steps(t, fitting*millionths-1, goes(1, fitting*millionths-1, 0), lacks(fitting, fitting*millionths-1, 0), takes(fitting-1, 999999, 0))
}

// P18.1 (U1: Waste): of 0, of fewer tokens than there are, of all, of more; it tells how many, and they add up.
func TestWaste(t *testing.T) {
	steps(t, 10,
		goes(100, 1000, 0),
		wastes(0, 0, 1000, 0),
		wastes(1, 1, 999, 1),
		wastes(299, 299, 700, 300),
		wastes(0, 0, 700, 300),
		wastes(701, 700, 0, 1000), // more: all that it has
		wastes(701, 0, 0, 1000),
		wastes(0, 0, 0, 1000),
		goes(150, 500, 1000),
		wastes(500, 500, 0, 1500), // all
		goes(151, 10, 1500),
		wastes(9, 9, 1, 1509),
		wastes(2, 1, 0, 1510),
		wastes(greatest, 0, 0, 1510),
		goes(152, 10, 1510),
		wastes(greatest, 10, 0, 1520),
	)
	// the document's tokens are millionths: what is wasted is no bytes
	steps(t, 500, goes(4000, 2000000, 0), takes(1, 1000000, 0), wastes(400000, 400000, 600000, 400000), goes(3000, 600000, 400000), lacks(1, 600000, 400000), wastes(900000, 600000, 0, 1000000), takes(0, 0, 1000000), goes(6000, 1000000, 1000000), takes(1, 0, 1000000))
	// what is wasted cannot be taken, and what was taken not be wasted
	steps(t, 1000000, goes(3, 3000000, 0), wastes(1, 1, 2999999, 1), lacks(3, 2999999, 1), takes(2, 999999, 1), wastes(1000000, 999999, 0, 1000000))
	// a rate of 0 has none
	steps(t, 0, goes(greatest, 0, 0), wastes(1, 0, 0, 0), wastes(greatest, 0, 0, 0))
}

// P18.1 (U1: Waste; DOC.md, rule 10): what is wasted runs over: it stops at the greatest number, and is told each time as it was.
func TestWasteOver(t *testing.T) {
	steps(t, greatest, goes(1, greatest, 0), wastes(greatest, greatest, 0, greatest), goes(2, greatest, greatest), wastes(5, 5, greatest-5, greatest), wastes(greatest, greatest-5, 0, greatest))
	steps(t, 1<<63,
		goes(1, 1<<63, 0),
		wastes(greatest, 1<<63, 0, 1<<63),
		goes(2, 1<<63, 1<<63),
		wastes(1<<63-2, 1<<63-2, 2, greatest-1),
		wastes(1, 1, 1, greatest),
		wastes(1, 1, 0, greatest), // a token above
		goes(3, 1<<63, greatest),
		wastes(7, 7, 1<<63-7, greatest),
		wastes(greatest, 1<<63-7, 0, greatest),
	)
}

// P18.1, P1, T1: whatever a bucket is told: any row of calls at their edges, and mixed calls of several scales, against a plain one.
func TestAnyCalls(t *testing.T) {
	for _, rate := range rates() {
		rows(3, edges(), func(l []call) { run(t, rate, l) })
	}
	few := []call{to(1), to(2), to(3), take(1), take(2), waste(1), waste(600000), waste(greatest)}
	for _, rate := range []uint64{500000, 1000000, 1 << 63} {
		rows(5, few, func(l []call) { run(t, rate, l) })
	}
	for i, s := range scales() {
		for n := range 40 {
			rate, l := mixed(200, mixer(1000*i+n), s)
			run(t, rate, l)
		}
	}
}

// P18.1, P1: a nil bucket does nothing, and answers false, and 0.
func TestNil(t *testing.T) {
	var b *bucket.Bucket
	for _, c := range edges() {
		if got := c.do(b); got != (answer{}) {
			t.Errorf("nil: %v: %v", c, got)
		}
		if got := look(b); got != (told{}) {
			t.Errorf("nil, behind %v: %v", c, got)
		}
	}
}

// P2: a bucket hangs on its own calls alone, not on another one's, and not on how often it is asked.
func TestOwnCallsAlone(t *testing.T) {
	few := []call{to(1), to(2), to(greatest), take(1), take(greatest), waste(7), waste(greatest)}
	rows(4, few, func(l []call) {
		const rate, others = 700000, 1500001
		b, other, idle := bucket.New(rate), bucket.New(others), bucket.New(rate)
		if b == other || b == idle {
			t.Fatal("two new buckets are one")
		}
		back := slices.Clone(l)
		slices.Reverse(back)
		for i := range l {
			back[i].do(other)
			look(b)
			l[i].do(b)
			look(other)
		}
		for _, x := range []struct {
			b *bucket.Bucket
			p plain
		}{{b, plainly(rate, l)}, {other, plainly(others, back)}, {idle, start(rate)}} {
			if got := look(x.b); got != x.p.look() {
				t.Fatalf("%v beside other buckets: %v, not %v", l, got, x.p.look())
			}
		}
	})
}
