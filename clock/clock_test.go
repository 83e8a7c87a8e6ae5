package clock_test

import (
	"math"
	"math/big"
	"testing"

	"goit/api"
	"goit/clock"
)

// The limits, as the document writes them.
const (
	horizon  = 1 << 42
	maxBytes = 1 << 56
	greatest = math.MaxUint64
)

// call is To(n), or Count(n).
type call struct {
	count bool
	n     uint64
}

func to(t uint64) call    { return call{false, t} }
func count(n uint64) call { return call{true, n} }

func (x call) do(c *clock.Clock) api.Errno {
	if x.count {
		return c.Count(x.n)
	}
	return c.To(x.n)
}

// state is all that a clock tells.
type state struct {
	time, bytes uint64
	past        bool
}

func look(c *clock.Clock) state { return state{c.Time(), c.Bytes(), c.Past()} }

// answer is a call's, and what the clock tells then.
type answer struct {
	err api.Errno
	state
}

// step is a call, and the answer that the document asks for.
type step struct {
	call
	answer
}

func gives(x call, err api.Errno, time, bytes uint64, past bool) step {
	return step{x, answer{err, state{time, bytes, past}}}
}

// told is the answer that C1 asks for, of a clock that told s ahead of the call; sums have no bound here.
func told(s state, x call) answer {
	if s.past {
		return answer{api.ErrHorizon, s}
	}
	ended := answer{api.ErrHorizon, state{s.time, s.bytes, true}}
	if !x.count {
		if x.n < s.time {
			return answer{api.ErrRange, s}
		}
		if x.n > horizon {
			return ended
		}
		return answer{api.OK, state{x.n, s.bytes, false}}
	}
	sum := new(big.Int).Add(new(big.Int).SetUint64(s.bytes), new(big.Int).SetUint64(x.n))
	if sum.Cmp(big.NewInt(maxBytes)) > 0 {
		return ended
	}
	return answer{api.OK, state{s.time, sum.Uint64(), false}}
}

// edges are calls at, below and above each edge that the document names.
func edges() []call {
	var l []call
	for _, t := range []uint64{0, 1, 2, 100, horizon - 1, horizon, horizon + 1, 1 << 63, greatest} {
		l = append(l, to(t))
	}
	for _, n := range []uint64{0, 1, 2, maxBytes - 1, maxBytes, maxBytes + 1, greatest - maxBytes, greatest - maxBytes + 1, greatest - 1, greatest} {
		l = append(l, count(n))
	}
	return l
}

// rows calls f with all rows of n edges.
func rows(n int, f func(l []call)) {
	var grow func(l []call)
	grow = func(l []call) {
		if len(l) == n {
			f(l)
			return
		}
		for _, x := range edges() {
			grow(append(l, x))
		}
	}
	grow(make([]call, 0, n))
}

// P2.1 (C1: New).
func TestNew(t *testing.T) {
	c := clock.New()
	if c == nil {
		t.Fatal("New: nil")
	}
	if got := look(c); got != (state{}) {
		t.Errorf("New: %v", got)
	}
}

// P2.1 (C1: To, Count), case by case.
func TestSteps(t *testing.T) {
	for name, steps := range map[string][]step{
		"time goes on": {
			gives(to(1), api.OK, 1, 0, false),
			gives(to(100), api.OK, 100, 0, false),
			gives(to(101), api.OK, 101, 0, false),
		},
		"its own time": {
			gives(to(0), api.OK, 0, 0, false),
			gives(to(100), api.OK, 100, 0, false),
			gives(to(100), api.OK, 100, 0, false),
		},
		"a time below its own": {
			gives(to(100), api.OK, 100, 0, false),
			gives(to(99), api.ErrRange, 100, 0, false),
			gives(to(0), api.ErrRange, 100, 0, false),
			gives(to(100), api.OK, 100, 0, false),
			gives(count(7), api.OK, 100, 7, false),
		},
		"the horizon": {
			gives(to(horizon), api.OK, horizon, 0, false),
			gives(to(horizon), api.OK, horizon, 0, false),
			gives(to(horizon-1), api.ErrRange, horizon, 0, false),
			gives(count(5), api.OK, horizon, 5, false),
			gives(to(horizon+1), api.ErrHorizon, horizon, 5, true),
		},
		"one above the horizon at once": {
			gives(to(horizon+1), api.ErrHorizon, 0, 0, true),
		},
		"the greatest time": {
			gives(to(7), api.OK, 7, 0, false),
			gives(to(greatest), api.ErrHorizon, 7, 0, true),
		},
		"bytes are counted together": {
			gives(count(0), api.OK, 0, 0, false),
			gives(count(3), api.OK, 0, 3, false),
			gives(count(4), api.OK, 0, 7, false),
			gives(count(0), api.OK, 0, 7, false),
			gives(to(9), api.OK, 9, 7, false),
		},
		"bytes up to the limit, piece by piece": {
			gives(count(maxBytes-1), api.OK, 0, maxBytes-1, false),
			gives(count(1), api.OK, 0, maxBytes, false),
			gives(count(0), api.OK, 0, maxBytes, false),
			gives(to(1), api.OK, 1, maxBytes, false),
			gives(count(1), api.ErrHorizon, 1, maxBytes, true),
		},
		"bytes up to the limit at once": {
			gives(count(maxBytes), api.OK, 0, maxBytes, false),
		},
		"one above the limit at once": {
			gives(count(maxBytes+1), api.ErrHorizon, 0, 0, true),
		},
		"one above the limit, by pieces that are below it": {
			gives(count(maxBytes-1), api.OK, 0, maxBytes-1, false),
			gives(count(2), api.ErrHorizon, 0, maxBytes-1, true),
		},
		"the greatest sum": {
			gives(count(maxBytes), api.OK, 0, maxBytes, false),
			gives(count(greatest-maxBytes), api.ErrHorizon, 0, maxBytes, true),
		},
		"a sum that would wrap round to 0": {
			gives(count(1), api.OK, 0, 1, false),
			gives(count(greatest), api.ErrHorizon, 0, 1, true),
		},
		"a sum that would wrap round to more than there was": {
			gives(count(maxBytes), api.OK, 0, maxBytes, false),
			gives(count(greatest), api.ErrHorizon, 0, maxBytes, true),
		},
		"past by its time": {
			gives(to(100), api.OK, 100, 0, false),
			gives(count(50), api.OK, 100, 50, false),
			gives(to(horizon+1), api.ErrHorizon, 100, 50, true),
			gives(to(100), api.ErrHorizon, 100, 50, true),
			gives(to(101), api.ErrHorizon, 100, 50, true),
			gives(to(99), api.ErrHorizon, 100, 50, true), // ahead of ErrRange
			gives(to(0), api.ErrHorizon, 100, 50, true),
			gives(to(horizon), api.ErrHorizon, 100, 50, true),
			gives(to(horizon+1), api.ErrHorizon, 100, 50, true),
			gives(count(0), api.ErrHorizon, 100, 50, true),
			gives(count(1), api.ErrHorizon, 100, 50, true),
			gives(count(greatest), api.ErrHorizon, 100, 50, true),
		},
		"past by its bytes": {
			gives(to(100), api.OK, 100, 0, false),
			gives(count(50), api.OK, 100, 50, false),
			gives(count(maxBytes), api.ErrHorizon, 100, 50, true),
			gives(to(100), api.ErrHorizon, 100, 50, true),
			gives(to(101), api.ErrHorizon, 100, 50, true),
			gives(to(99), api.ErrHorizon, 100, 50, true), // ahead of ErrRange
			gives(to(0), api.ErrHorizon, 100, 50, true),
			gives(to(horizon+1), api.ErrHorizon, 100, 50, true),
			gives(count(0), api.ErrHorizon, 100, 50, true),
			gives(count(1), api.ErrHorizon, 100, 50, true),
			gives(count(greatest), api.ErrHorizon, 100, 50, true),
		},
	} {
		t.Run(name, func(t *testing.T) {
			c := clock.New()
			for i, x := range steps {
				if err := x.do(c); err != x.err || look(c) != x.state {
					t.Fatalf("step %d, %v: %v, not %v", i, x.call, answer{err, look(c)}, x.answer)
				}
			}
		})
	}
}

// P2.1 (C1), at all rows of edges.
func TestEdges(t *testing.T) {
	rows(4, func(l []call) {
		c, s := clock.New(), state{}
		for _, x := range l {
			want := told(s, x)
			if err := x.do(c); err != want.err || look(c) != want.state {
				t.Fatalf("%v, at %v: %v, not %v", l, x, answer{err, look(c)}, want)
			}
			s = want.state
		}
	})
}

// P2.2: whatever is called, time and bytes never fall, and what is past stays so, and stays as it is.
func TestOn(t *testing.T) {
	past := 0
	rows(4, func(l []call) {
		c := clock.New()
		for _, x := range l {
			ahead := look(c)
			x.do(c)
			now := look(c)
			if now.time < ahead.time || now.bytes < ahead.bytes {
				t.Fatalf("%v, at %v: fell from %v to %v", l, x, ahead, now)
			}
			if ahead.past {
				past++
				if now != ahead {
					t.Fatalf("%v, at %v: past, and from %v to %v", l, x, ahead, now)
				}
			}
		}
	})
	if past == 0 {
		t.Error("no clock was past")
	}
}

// DOC.md, rule 3: with an error nothing has changed, but that the clock may be past with ErrHorizon.
func TestErrorsChangeNothing(t *testing.T) {
	rows(3, func(l []call) {
		c := clock.New()
		for _, x := range l {
			want := look(c)
			err := x.do(c)
			if err == api.OK {
				continue
			}
			want.past = want.past || err == api.ErrHorizon
			if got := look(c); got != want {
				t.Fatalf("%v, at %v: error %d, and %v, not %v", l, x, err, got, want)
			}
		}
	})
}

// P2.1 (C1) and P1: a nil clock answers, whatever it is asked.
func TestNil(t *testing.T) {
	var c *clock.Clock
	if got := look(c); got != (state{}) {
		t.Errorf("nil: %v", got)
	}
	for _, x := range edges() {
		if err := x.do(c); err != api.ErrArg {
			t.Errorf("nil, %v: %d, not ErrArg", x, err)
		}
	}
}

// P2: a clock hangs on its own calls alone, not on another clock's, and not on how often it is looked at.
func TestOwnCallsAlone(t *testing.T) {
	rows(3, func(l []call) {
		alone := clock.New()
		var want []api.Errno
		for _, x := range l {
			want = append(want, x.do(alone))
		}
		c, other := clock.New(), clock.New()
		for i, x := range l {
			l[len(l)-1-i].do(other)
			look(c)
			if err := x.do(c); err != want[i] {
				t.Fatalf("%v, at %v: %d beside another clock, %d alone", l, x, err, want[i])
			}
		}
		if look(c) != look(alone) {
			t.Fatalf("%v: %v beside another clock, %v alone", l, look(c), look(alone))
		}
		if fresh := look(clock.New()); fresh != (state{}) {
			t.Fatalf("%v: then a new clock tells %v", l, fresh)
		}
	})
}
