package round_test

import (
	"math"
	"slices"
	"testing"

	"goit/round"
)

// greatest is the greatest number.
const greatest = math.MaxUint64

// rows calls f with all rows of one to n of some calls.
func rows[C any](n int, of []C, f func(l []C)) {
	l := make([]C, 0, n)
	var grow func()
	grow = func() {
		if len(l) == n {
			return
		}
		for _, c := range of {
			l = append(l, c)
			f(l)
			grow()
			l = l[:len(l)-1]
		}
	}
	grow()
}

// numbers calls f with so many numbers, of all lengths, in an order that shows no rule.
func numbers(n int, f func(x uint64)) {
	x := uint64(1)
	for range n {
		x = x*6364136223846793005 + 1442695040888963407
		f(x >> (x >> 32 % 64))
	}
}

// ack is Ack(stamp, delivered).
type ack struct{ stamp, delivered uint64 }

// counted is what an Ack answers, and how many rounds are behind it.
type counted struct {
	over   bool
	rounds uint64
}

func (a ack) do(c *round.Counter) counted {
	over := c.Ack(a.stamp, a.delivered)
	return counted{over, c.Count()}
}

// counts makes Acks on a new counter.
func counts(l ...ack) *round.Counter {
	c := round.New()
	for _, a := range l {
		a.do(c)
	}
	return c
}

// ends is a counter as the words say it: the delivered bytes of each Ack that ended a round.
type ends []uint64

func (e ends) mark() uint64 {
	if len(e) == 0 {
		return 0
	}
	return e[len(e)-1]
}

// do is what an Ack makes of it, and its answer.
func (e ends) do(a ack) (ends, counted) {
	if a.stamp < e.mark() {
		return e, counted{false, uint64(len(e))}
	}
	return append(e, a.delivered), counted{true, uint64(len(e)) + 1}
}

// holdMark holds the mark of a counter behind Acks against a number: with a stamp just below that no round is over, with that one there is.
func holdMark(t *testing.T, l []ack, mark uint64) {
	t.Helper()
	if mark > 0 && counts(l...).Ack(mark-1, 77) {
		t.Fatalf("behind %v: with a stamp of %d a round is over", l, mark-1)
	}
	if !counts(l...).Ack(mark, 77) {
		t.Fatalf("behind %v: with a stamp of %d no round is over", l, mark)
	}
}

// runCounter makes Acks on a new counter, and holds what it tells at and behind each against the words. It looks twice: looking changes nothing.
func runCounter(t *testing.T, l []ack) {
	t.Helper()
	c := round.New()
	var e ends
	for i, a := range l {
		var want counted
		e, want = e.do(a)
		if got := a.do(c); got != want || c.Count() != want.rounds {
			t.Fatalf("at %d, %v: %v, then %d, not %v", i, a, got, c.Count(), want)
		}
	}
}

// acked is an Ack, and what it answers.
type acked struct {
	ack
	counted
}

func gives(stamp, delivered uint64, over bool, rounds uint64) acked {
	return acked{ack{stamp, delivered}, counted{over, rounds}}
}

// steps holds a new counter against them, one by one, and its mark behind them all.
func steps(t *testing.T, mark uint64, l ...acked) {
	t.Helper()
	c := round.New()
	var acks []ack
	for i, s := range l {
		if got := s.do(c); got != s.counted {
			t.Fatalf("step %d, %v: %v, not %v", i, s.ack, got, s.counted)
		}
		acks = append(acks, s.ack)
	}
	holdMark(t, acks, mark)
	runCounter(t, acks)
}

// P11.1 (Words, N1): a new counter has no round, and with any stamp one is over, as its mark is 0.
func TestNewCounter(t *testing.T) {
	if c := round.New(); c == nil || c.Count() != 0 {
		t.Fatal("a new counter is nil, or has rounds")
	}
	for _, stamp := range []uint64{0, 1, 5, 1 << 63, greatest} {
		for _, delivered := range []uint64{0, 1, 4, 5, 6, 1 << 63, greatest} {
			steps(t, delivered, gives(stamp, delivered, true, 1))
		}
	}
}

// P11.1 (N1: Ack): a stamp just below the mark, at it, and above it.
func TestStamps(t *testing.T) {
	for _, mark := range []uint64{1, 2, 10, 1500, 1 << 32, 1<<63 - 1, 1 << 63, greatest - 1, greatest} {
		for _, delivered := range []uint64{0, 1, mark - 1, mark, 1 << 62, greatest} {
			steps(t, mark, gives(0, mark, true, 1), gives(mark-1, delivered, false, 1))
			steps(t, mark, gives(0, mark, true, 1), gives(0, delivered, false, 1))
			steps(t, mark, gives(0, mark, true, 1), gives(mark/2, delivered, false, 1))
			steps(t, delivered, gives(0, mark, true, 1), gives(mark, delivered, true, 2))
			if mark < greatest {
				steps(t, delivered, gives(0, mark, true, 1), gives(mark+1, delivered, true, 2))
				steps(t, delivered, gives(0, mark, true, 1), gives(greatest, delivered, true, 2))
			}
		}
	}
}

// P11.1 (N1: Ack): behind an Ack that ended a round the mark is its delivered bytes; behind others it is what it was.
func TestMarks(t *testing.T) {
	steps(t, 0)
	steps(t, 10, gives(0, 10, true, 1))
	steps(t, 10, gives(3, 10, true, 1)) // neither the stamp,
	steps(t, 30, gives(0, 10, true, 1), gives(20, 30, true, 2))
	steps(t, 30, gives(0, 10, true, 1), gives(10, 30, true, 2)) // nor what is between both, nor their sum
	steps(t, 10, gives(0, 10, true, 1), gives(9, 30, false, 1))
	steps(t, 10, gives(0, 10, true, 1), gives(9, 30, false, 1), gives(8, 40, false, 1), gives(0, 5, false, 1))
	steps(t, 50, gives(0, 10, true, 1), gives(9, 30, false, 1), gives(10, 50, true, 2))
	steps(t, 50, gives(0, 10, true, 1), gives(10, 50, true, 2), gives(49, 60, false, 2))
	steps(t, 70, gives(0, 10, true, 1), gives(10, 50, true, 2), gives(49, 60, false, 2), gives(60, 70, true, 3))
}

// P11.1 (N1: Ack): delivered bytes below the stamp, and below the mark ahead: the mark is lower then, if the round is over.
func TestDeliveredBelow(t *testing.T) {
	steps(t, 4, gives(9, 4, true, 1)) // below the stamp
	steps(t, 4, gives(9, 4, true, 1), gives(3, 8, false, 1))
	steps(t, 8, gives(9, 4, true, 1), gives(4, 8, true, 2))
	steps(t, 90, gives(0, 100, true, 1), gives(100, 90, true, 2)) // below the mark as well
	steps(t, 95, gives(0, 100, true, 1), gives(100, 90, true, 2), gives(89, 91, false, 2), gives(90, 95, true, 3))
	steps(t, 0, gives(0, 100, true, 1), gives(100, 0, true, 2)) // all begins anew
	steps(t, 7, gives(0, 100, true, 1), gives(100, 0, true, 2), gives(0, 7, true, 3))
	steps(t, 100, gives(0, 100, true, 1), gives(99, 90, false, 1)) // the round is not over: the mark stays
	steps(t, 100, gives(0, 100, true, 1), gives(50, 20, false, 1))
	steps(t, 0, gives(greatest, 0, true, 1), gives(0, 0, true, 2))
	steps(t, 1, gives(0, greatest, true, 1), gives(greatest, 1, true, 2), gives(0, greatest, false, 2))
}

// P11.1 (N1: Count): how many rounds are, behind each Ack.
func TestCount(t *testing.T) {
	steps(t, 50,
		gives(0, 10, true, 1),
		gives(5, 20, false, 1),
		gives(9, 20, false, 1),
		gives(10, 30, true, 2),
		gives(29, 40, false, 2),
		gives(29, 40, false, 2),
		gives(30, 40, true, 3),
		gives(40, 40, true, 4), // nothing is delivered since: the next round is over at once
		gives(40, 40, true, 5),
		gives(39, 60, false, 5),
		gives(41, 50, true, 6),
		gives(49, 90, false, 6),
	)
	steps(t, 0, gives(0, 0, true, 1), gives(0, 0, true, 2), gives(0, 0, true, 3))
	steps(t, greatest,
		gives(0, greatest, true, 1),
		gives(greatest-1, greatest, false, 1),
		gives(greatest, greatest, true, 2),
		gives(greatest, greatest, true, 3),
	)
}

// P11.1 (N1), behind all rows of Acks, small ones, and such at the edges of numbers.
func TestCounterRows(t *testing.T) {
	for _, of := range [][]uint64{{0, 1, 2, 3}, {0, 1, greatest - 1, greatest}} {
		var all []ack
		for _, stamp := range of {
			for _, delivered := range of {
				all = append(all, ack{stamp, delivered})
			}
		}
		rows(4, all, func(l []ack) {
			var e ends
			var want, got counted
			c := round.New()
			for _, a := range l {
				e, want = e.do(a)
				got = a.do(c)
			}
			if got != want {
				t.Fatalf("%v: the last one %v, not %v", l, got, want)
			}
			holdMark(t, l, e.mark())
		})
	}
}

// P11.1 (N1), at and behind each of many Acks.
func TestCounterLong(t *testing.T) {
	for _, most := range []uint64{1, 7, 1<<10 - 1, 1<<56 - 1, greatest} {
		var l []ack
		ahead := uint64(0)
		numbers(20000, func(x uint64) {
			l = append(l, ack{ahead & most, x & most})
			ahead = x
		})
		runCounter(t, l)
	}
}

// P11.1 (N1): a path that always has so many packets out tells a round by each of them that was sent when the one ahead ended.
func TestCounterPath(t *testing.T) {
	for _, out := range []uint64{1, 2, 3, 10, 64} {
		for _, size := range []uint64{1, 3, 1500} {
			c := round.New()
			for i := range uint64(1000) {
				stamp := uint64(0) // of the first ones
				if i >= out {
					stamp = (i - out + 1) * size
				}
				want := counted{i%out == 0, i/out + 1}
				if got := (ack{stamp, (i + 1) * size}).do(c); got != want {
					t.Fatalf("%d packets of %d bytes out, at packet %d: %v, not %v", out, size, i, got, want)
				}
			}
		}
	}
}

// P11.1 (N1: Count): a million rounds.
func TestManyRounds(t *testing.T) {
	c := round.New()
	for i := range uint64(1000000) {
		if got, want := (ack{i, i + 1}).do(c), (counted{true, i + 1}); got != want {
			t.Fatalf("%v, not %v", got, want)
		}
		if got, want := (ack{i, i + 9}).do(c), (counted{false, i + 1}); got != want {
			t.Fatalf("%v, not %v", got, want)
		}
	}
}

// P2: a counter hangs on its own Acks alone, not on another one's, and not on how often it is asked.
func TestCountersBeside(t *testing.T) {
	of := []ack{{0, 1}, {1, 2}, {1, 0}, {2, 1}, {greatest, 3}}
	rows(5, of, func(l []ack) {
		first, other := round.New(), round.New()
		if first == other {
			t.Fatal("two counters are one")
		}
		back := slices.Clone(l)
		slices.Reverse(back)
		var e, o ends
		for i := range l {
			var want, beside counted
			e, want = e.do(l[i])
			o, beside = o.do(back[i])
			if got := l[i].do(first); got != want {
				t.Fatalf("%v, at %d: %v beside another counter, not %v", l, i, got, want)
			}
			if fresh := round.New().Count(); fresh != 0 {
				t.Fatalf("behind %v a new counter has %d rounds", l, fresh)
			}
			if got := back[i].do(other); got != beside {
				t.Fatalf("%v, backwards, at %d: %v beside another counter, not %v", l, i, got, beside)
			}
			if first.Count() != want.rounds || other.Count() != beside.rounds {
				t.Fatalf("%v, at %d: %d and %d rounds", l, i, first.Count(), other.Count())
			}
		}
	})
}

// P11.1 (N1), P1 and DOC.md, rule 8: a nil counter answers false and 0, whatever it is asked.
func TestNilCounter(t *testing.T) {
	var c *round.Counter
	if c.Count() != 0 {
		t.Error(c.Count())
	}
	for _, stamp := range []uint64{0, 1, greatest} {
		for _, delivered := range []uint64{0, 1, greatest} {
			if got := (ack{stamp, delivered}).do(c); got != (counted{}) || c != nil {
				t.Errorf("nil, %d, %d: %v", stamp, delivered, got)
			}
		}
	}
}
