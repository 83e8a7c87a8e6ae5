package bbr_test

import (
	"testing"

	"goit/api"
	"goit/bbr"
)

// P15.1 (Z1: step 4): a lossy round in Startup pulls the long bound: by what is in flight, and what the path holds, with what this very event told of it.
func TestLossyStartup(t *testing.T) {
	for _, x := range []struct{ flight, hi uint64 }{
		{0, 700}, {699, 700}, {700, 700}, {701, 701}, {1100, 1100}, {9000, 9000}, {greatest - 1, greatest - 1}, {greatest, greatest},
	} {
		w := walks(t, small())
		w.step(lost(100), flight(x.flight))
		w.tells(api.Drain, min(1100, x.hi), 36000)
		w.bounds(x.hi, greatest, greatest)
	}
}

// P15.1 (Z1: step 4): so does one in Up, which ends that; in Down there has to be room.
func TestLossyUp(t *testing.T) {
	for _, x := range []struct{ flight, hi, cwnd uint64 }{
		{0, 700, 595}, {701, 701, 595}, {702, 702, 596}, {1000, 1000, 850}, {9000, 9000, 2075},
	} {
		w := walks(t, small())
		w.to(api.Up)
		w.step(lost(100), flight(x.flight))
		w.tells(api.Down, x.cwnd, 75000)
		w.bounds(x.hi, greatest, greatest)
	}
}

// P15.1 (Z1: step 4): what is pulled is not what it was: it may be more, and does not hang on that.
func TestPullsAnew(t *testing.T) {
	w := walks(t, small())
	w.step(lost(100), flight(800))
	w.bounds(800, greatest, greatest)
	w.step(flight(600))
	w.step(flight(600))
	w.step(after(2000000), flight(600))
	w.step(flight(600), acked(0))
	w.is(api.Up)
	w.step(lost(100), flight(2000))
	w.is(api.Down)
	w.bounds(2000, greatest, greatest)
}

// P15.1 (Z1: step 4): in each other state bounds lose: by the sample's delivered bytes, its rate, and cwnd as it was ahead of the event.
func TestLossyElsewhere(t *testing.T) {
	for _, x := range []struct {
		s, then api.State
		cwnd    uint64 // that the state has
		lo      uint64 // what seven tenths of that are
	}{
		{api.Drain, api.Drain, 2036, 1425},
		{api.Down, api.Down, 2075, 1452},
		{api.Cruise, api.Cruise, 2100, 1470},
		{api.Refill, api.Up, 2100, 1470},
		{api.ProbeRTT, api.ProbeRTT, 500, 350},
	} {
		for _, brought := range []uint64{0, 1, x.lo - 1, x.lo, x.lo + 1, 3000} {
			w := walks(t, small())
			w.to(x.s)
			w.has("cwnd", w.Cwnd(), x.cwnd)
			w.step(lost(100), rate(60000), flight(2000), func(e *bbr.Event) { e.Sample.Delivered, e.Delivered = brought, e.Delivered+9000 })
			w.is(x.then)
			w.bounds(greatest, max(x.lo, brought), 60000)
			// The short bounds, once they are there, are what is lost of.
			w.step(lost(100), rate(20000), flight(1001), func(e *bbr.Event) { e.Sample.Delivered = 1 })
			switch x.s {
			case api.Refill:
				// That was Up.
				w.bounds(1001, max(x.lo, brought), 60000)
			default:
				w.bounds(greatest, max(x.lo, brought)*7/10, 42000)
			}
		}
	}
}

// P15.1 (Z1: step 4): a round that is not lossy, and an event without a round, let bounds be.
func TestNotLossy(t *testing.T) {
	for _, s := range []api.State{api.Startup, api.Drain, api.Down, api.Cruise, api.Refill, api.ProbeRTT} {
		w := walks(t, small())
		w.to(s)
		w.step(lost(20), acked(980), flight(2000))
		w.bounds(greatest, greatest, greatest)
		w = walks(t, small())
		w.to(s)
		w.step(lost(900), flight(2000), without)
		w.bounds(greatest, greatest, greatest)
		if s != api.Startup {
			w = walks(t, small())
			w.to(s)
			w.step(lost(900), flight(2000), within)
			w.bounds(greatest, greatest, greatest)
		}
	}
}

// P15.1 (Z1: steps 4, 5): a lossy round at the end of Down, or Cruise: to Refill the bounds are short at once. At the end of Drain they stay.
func TestLossyAtTheEnd(t *testing.T) {
	for _, s := range []api.State{api.Down, api.Cruise} {
		w := walks(t, small())
		w.to(s)
		w.step(lost(100), flight(2000), rate(10000), after(1999999))
		w.is(s)
		w.bounds(greatest, w.m.lo, 10000)
		w.step(lost(100), flight(2000), rate(10000), after(1))
		w.tells(api.Refill, 1220, 100000)
		w.bounds(greatest, greatest, greatest)
	}
	w := walks(t, small())
	w.to(api.Drain)
	w.step(lost(100), rate(50000))
	w.bounds(greatest, 1425, 50000)
	w.tells(api.Down, 1037, 37500)
}

// P15.1 (Z1: step 5): to Refill the long bound stays.
func TestShort(t *testing.T) {
	w := walks(t, small())
	w.step(lost(100))
	w.step(lost(100), rate(50000))
	w.is(api.Down)
	w.bounds(1000, 1000, 50000)
	w.step(lost(100), rate(20000), flight(850), brought(900))
	w.is(api.Cruise)
	w.bounds(1000, 900, 35000)
	w.step(after(1999999), flight(850))
	w.bounds(1000, 900, 35000)
	w.step(after(1), flight(850))
	w.is(api.Refill)
	w.bounds(1000, greatest, greatest)
}

// P15.1 (Z1: step 5): lossy in Startup, and Up, ends these; in each other state it does not.
func TestLossyEnds(t *testing.T) {
	for s, then := range []api.State{api.Drain, api.Drain, api.Down, api.Cruise, api.Up, api.Down, api.ProbeRTT} {
		w := walks(t, small())
		w.to(api.State(s))
		w.step(lost(900), flight(1100))
		w.is(then)
	}
}

// P15.1 (Z1: step 5): Target is what the path holds, whatever the short bounds are; Cap is the long one's room.
func TestTarget(t *testing.T) {
	for _, x := range []struct {
		flight uint64
		then   api.State
	}{{1000, api.Down}, {1001, api.Drain}} {
		w := walks(t, small())
		w.to(api.Drain)
		w.step(lost(100), rate(10000), flight(2000))
		w.has("Bw", w.Limits().Bw, 10000)
		w.step(flight(x.flight))
		w.is(x.then)
	}
	for _, x := range []struct {
		hi, flight uint64
		then       api.State
	}{
		{1000, 850, api.Cruise},
		{1000, 851, api.Down},
		{999, 849, api.Cruise},
		{999, 850, api.Down},
		{2000, 1000, api.Cruise},
		{2000, 1001, api.Down},
	} {
		w := walks(t, small())
		w.step(lost(100), flight(x.hi))
		w.step(flight(1000))
		w.is(api.Down)
		w.step(flight(x.flight))
		w.is(x.then)
	}
}

// P15.1 (Z1: step 5): what the path holds is rounded up, and of what this event told: a greater rate, and a lesser round trip.
func TestTargetAnew(t *testing.T) {
	for _, x := range []struct{ rate, rtt, holds uint64 }{
		{100000, 10000, 1000},
		{200000, 10000, 2000},
		{200001, 10000, 2001},
		{100000, 5000, 500},
		{100000, 5001, 501},
		{100000, 20000, 1000},
		{50000, 10000, 1000},
	} {
		for more := range uint64(2) {
			w := walks(t, small())
			w.to(api.Drain)
			w.step(rate(x.rate), rtt(x.rtt), flight(x.holds+more))
			w.is(api.Down - api.State(more))
		}
	}
}

// P15.1 (Z1: step 5): rounds are those since the state began: the one with which it began is none of them.
func TestRoundsAnew(t *testing.T) {
	w := walks(t, small())
	w.to(api.Cruise)
	for range 5 {
		w.step()
	}
	w.step(after(2000000)) // over, too
	w.is(api.Refill)
	w.step(within, flight(2000))
	w.step(without, flight(2000))
	w.is(api.Refill)
	w.step(flight(2000))
	w.is(api.Up)
	w.step(within, flight(2000))
	w.step(without, flight(2000))
	w.is(api.Up)
	w.step(flight(2000))
	w.is(api.Down)
}

// P15.1 (Z1: step 5): a state begins with the event's time, even if that is behind the filter's, and Elapsed is between that and the event's; what would be below 0 is 0.
func TestBegan(t *testing.T) {
	for _, x := range []struct {
		began, now uint64
		then       api.State
	}{
		{0, 1999999, api.Cruise},
		{0, 2000000, api.Refill},
		{5, 2000004, api.Cruise},
		{5, 2000005, api.Refill},
		{60000, 60000, api.Cruise},
		{60000, 2060000, api.Refill},
		{60000, 59999, api.Cruise},
		{60000, 0, api.Cruise},
		{greatest, 0, api.Cruise},
		{greatest, greatest, api.Cruise},
		{greatest - 2000000, greatest, api.Refill},
		{greatest - 1999999, greatest, api.Cruise},
	} {
		w := walks(t, small())
		w.to(api.Down)
		w.step(at(x.began))
		w.is(api.Cruise)
		w.step(at(x.now), within)
		w.is(x.then)
	}
}

// P15.1 (Z1: step 5): Wait is by the cycles that have begun: from Up to Down one does, on no other way.
func TestWait(t *testing.T) {
	w := walks(t, small())
	w.to(api.Cruise)
	for cycles := range uint64(20) {
		wait := 2000000 + 125000*(cycles%8)
		w.step(after(wait - 1))
		w.is(api.Cruise)
		w.step(after(1))
		w.is(api.Refill)
		w.step()
		w.is(api.Up)
		w.step(flight(1250))
		w.is(api.Down)
		w.step()
		w.is(api.Cruise)
	}
}

// P15.1 (Z1: step 5): from Up to ProbeRTT no cycle begins.
func TestNoCycle(t *testing.T) {
	w := walks(t, small())
	w.to(api.Up)
	w.step(rtt(20000), after(5000001))
	w.is(api.ProbeRTT)
	w.step(rtt(20000), after(200000))
	w.is(api.Cruise)
	w.step(rtt(20000), after(1999999))
	w.is(api.Cruise)
	w.step(rtt(20000), after(1))
	w.is(api.Refill)
}

// P15.1 (Z1: step 5): with the next cycle, step 7 of the same event has the best rate of that one, and the one ahead.
func TestCycleAtOnce(t *testing.T) {
	w := walks(t, small())
	w.step(rate(400000))
	w.to2Up(100000)
	w.step(rate(100000), flight(9000))
	w.tells(api.Down, 8300, 300000)
	w.toUpAgain(100000)
	w.has("best", w.Engine.Best(), 400000)
	w.step(rate(100000), flight(9000))
	w.tells(api.Down, 2075, 75000)
}

// to2Up walks on to the first time in Up, at a rate.
func (w *walk) to2Up(n uint64) {
	w.t.Helper()
	for w.State() != api.Cruise {
		w.step(rate(n))
	}
	w.step(rate(n), after(2000000))
	w.step(rate(n))
	w.is(api.Up)
}

// toUpAgain walks on to the second time.
func (w *walk) toUpAgain(n uint64) {
	w.t.Helper()
	w.step(rate(n))
	w.is(api.Cruise)
	w.step(rate(n), after(2125000))
	w.step(rate(n))
	w.is(api.Up)
}

// P15.1 (Z1: step 5): Stale, in each state: more than half of the Window since the least round trip.
func TestStale(t *testing.T) {
	for s := range api.State(6) {
		for _, x := range []struct {
			later uint64
			stale bool
		}{{0, false}, {4999999, false}, {5000000, false}, {5000001, true}, {9999999, true}, {10000000, true}, {10000001, false}} {
			w := walks(t, small())
			w.to(s)
			if s == api.Startup {
				w.step()
			}
			w.step(without, after(x.later), flight(2000))
			if got := w.State() == api.ProbeRTT; got != x.stale {
				t.Errorf("in state %d, %d later: stale %t", s, x.later, got)
			}
		}
	}
}

// P15.1 (Z1: step 5): half of the Window is rounded down; a Window of 1 has nothing.
func TestStaleWindows(t *testing.T) {
	for _, window := range []uint64{1, 2, 3, 4, 5, 8, 9, 10000001, 1<<40 - 1, 1 << 40} {
		half := window / 2
		for _, later := range []uint64{0, half, half + 1, half + 2, window - 1, window, window + 1, window + 2} {
			c := small()
			c.Window = window
			w := walks(t, c)
			w.step(at(100))
			w.step(at(100+later), without)
			if got := w.State() == api.ProbeRTT; got != (later > half && later <= window) {
				t.Errorf("window %d, %d later: stale %t", window, later, got)
			}
		}
	}
}

// P15.1 (Z1: step 5): without a least round trip nothing is stale; one of the same event is as new as can be, if it is the least one.
func TestStaleWithout(t *testing.T) {
	w := walks(t, small())
	for _, now := range []uint64{5000001, 9000000, 1 << 40, greatest} {
		w.step(at(now), without)
		w.is(api.Startup)
	}
	for _, x := range []struct {
		rtt  uint64
		then api.State
	}{{9999, api.Startup}, {10000, api.Startup}, {10001, api.ProbeRTT}} {
		w := walks(t, small())
		w.step()
		w.step(after(9000000), rtt(x.rtt))
		w.is(x.then)
	}
}

// P15.1 (Z1: step 5): a time behind: that of the event tells, not the filter's.
func TestStaleBehind(t *testing.T) {
	w := walks(t, small())
	w.step(at(1000000), rtt(10))
	w.step(at(1500000), rtt(9000))
	w.step(at(0), rtt(10))
	w.step(at(999999), without)
	w.is(api.Startup)
	c := small()
	c.Window = 10
	w = walks(t, c)
	w.step(at(100), rtt(10))
	w.step(at(105), rtt(20))
	w.is(api.Startup)
	w.step(at(90), without)
	w.is(api.Startup)
	w.step(at(106), without)
	w.is(api.ProbeRTT)
}

// P15.1 (Z1: step 5): ProbeRTT lasts for ProbeLen, and a round at least.
func TestProbe(t *testing.T) {
	w := walks(t, small())
	w.to(api.ProbeRTT)
	w.step(rtt(20000), after(199999), acked(0))
	w.step(rtt(20000), after(0), acked(0))
	w.is(api.ProbeRTT)
	w.step(without, after(1), acked(0))
	w.is(api.Startup)
	w = walks(t, small())
	w.to(api.ProbeRTT)
	w.step(without, after(199999))
	w.is(api.ProbeRTT)
	w.step(without, after(2))
	w.step(rtt(20000), within)
	w.is(api.ProbeRTT)
	w.step(rtt(20000))
	w.is(api.Startup)
	// The round with which it began is none of its own.
	w = walks(t, small())
	w.step()
	w.step(rtt(20000), after(5000001))
	w.is(api.ProbeRTT)
	w.step(without, after(200000))
	w.is(api.ProbeRTT)
	w.step(rtt(20000))
	w.is(api.Startup)
	// A full pipe leads to Cruise.
	w = walks(t, small())
	w.to(api.Drain)
	w.step(rtt(20000), after(5000001), flight(2000))
	w.is(api.ProbeRTT)
	w.step(rtt(20000), after(200000), flight(2000))
	w.is(api.Cruise)
}

// P15.1 (Z1: step 5): a rate that fills the pipe within ProbeRTT tells at its end.
func TestProbeFills(t *testing.T) {
	w := walks(t, small())
	w.step()
	w.step(after(5000001), rtt(20000)) // the pipe's first one that is not five quarters
	w.is(api.ProbeRTT)
	w.step(after(1), rtt(20000))
	w.step(after(199999), rtt(20000))
	w.is(api.Cruise)
}

// P15.1 (Z1: step 5): a setup's ProbeLen.
func TestProbeLen(t *testing.T) {
	for _, n := range []uint64{1, 2, 1000, 200001, 1 << 40} {
		c := small()
		c.Window, c.ProbeLen = 1<<40, n
		w := walks(t, c)
		w.step()
		w.step(rtt(20000), after(1<<39+1))
		w.is(api.ProbeRTT)
		w.step(after(n-1), within)
		w.is(api.ProbeRTT)
		w.step(after(1))
		w.is(api.Startup)
	}
}

// P15.1 (Z1: step 5): cwnd as it was ahead of the event with which ProbeRTT begins is kept, and there again when it ends, if it is the greater one.
func TestKept(t *testing.T) {
	w := walks(t, small())
	w.step()
	w.tells(api.Startup, 1100, 277000)
	w.step(rtt(20000), after(5000001), acked(3), within)
	w.tells(api.ProbeRTT, 500, 100000)
	w.step(rtt(20000), after(199999), acked(7), within)
	w.tells(api.ProbeRTT, 500, 100000)
	w.step(rtt(20000), after(1), acked(7))
	w.tells(api.Startup, 1107, 277000)
	// A lesser one.
	w = walks(t, small())
	w.step(acked(1))
	w.tells(api.Startup, 101, 277000)
	w.step(rtt(20000), after(5000001), acked(300), within)
	w.tells(api.ProbeRTT, 401, 100000)
	w.step(rtt(20000), after(199999), acked(70), within)
	w.tells(api.ProbeRTT, 471, 100000)
	w.step(rtt(20000), after(1), acked(5))
	w.tells(api.Startup, 476, 277000)
	// The next probe keeps what is there then: not the greater one of both.
	w.step(acked(0), rtt(8000), within)
	w.step(rtt(20000), after(5000001), acked(0), within)
	w.tells(api.ProbeRTT, 400, 100000)
	w.step(rtt(20000), after(200000), acked(5))
	w.tells(api.Startup, 481, 277000)
	// Where it does not end with it, kept alters nothing.
	w = walks(t, small())
	w.to(api.Cruise)
	w.step(rtt(20000), after(5000001))
	w.tells(api.ProbeRTT, 500, 100000)
	w.step(rtt(20000), after(200000), acked(0))
	w.tells(api.Cruise, 2100, 100000)
}

// P15.1 (Z1: step 5): Stale counts from the end of the last ProbeRTT, if that is later than the least round trip's time.
func TestStaleFromTheEnd(t *testing.T) {
	for _, window := range []uint64{100, 101} {
		for _, x := range []struct {
			later uint64
			stale bool
		}{{50, false}, {51, true}, {44, false}, {99, true}, {0, false}} {
			c := small()
			c.Window, c.ProbeLen = window, 6
			w := walks(t, c)
			w.step(at(1000), rtt(10))
			w.step(at(1051), rtt(20))
			w.is(api.ProbeRTT)
			w.step(at(1052), rtt(15), within)
			w.step(at(1057), rtt(30)) // the end: the least one is that of 1000, and the next one that of 1052
			w.is(api.Startup)
			w.step(at(1000+window+1), without)
			w.has("least", w.Engine.Least(), 15)
			w.is(api.Startup)
			w.step(at(1057+x.later), without)
			if got := w.State() == api.ProbeRTT; got != x.stale {
				t.Errorf("window %d, %d behind the end: stale %t", window, x.later, got)
			}
		}
	}
}

// P15.1 (Z1: step 5): a round trip that is later than the end of the last ProbeRTT tells.
func TestStaleBehindTheEnd(t *testing.T) {
	c := small()
	c.Window, c.ProbeLen = 100, 6
	w := walks(t, c)
	w.step(at(1000), rtt(10))
	w.step(at(1051), rtt(20))
	w.step(at(1057), rtt(30))
	w.is(api.Startup)
	w.step(at(1060), rtt(10), within)
	w.step(at(1110), without)
	w.is(api.Startup)
	w.step(at(1111), without)
	w.is(api.ProbeRTT)
}

// P15.1 (Z1: step 6): in Up the long bound is pushed by what is acknowledged, with a round, without, and without a sample; from the event on with which it begins, but not with that with which it ends.
func TestPush(t *testing.T) {
	w := walks(t, small())
	w.step(lost(100))
	w.tells(api.Drain, 1000, 36000)
	w.step()
	w.tells(api.Down, 850, 75000)
	w.step(flight(850))
	w.tells(api.Cruise, 850, 100000)
	w.step(after(2000000))
	w.tells(api.Refill, 1000, 100000)
	w.bounds(1000, greatest, greatest)
	w.step(acked(200))
	w.tells(api.Up, 1200, 125000)
	w.bounds(1200, greatest, greatest)
	w.step(acked(1))
	w.step(acked(0))
	w.bounds(1201, greatest, greatest)
	w.step(acked(20), within)
	w.bounds(1221, greatest, greatest)
	w.step(acked(30), without)
	w.bounds(1251, greatest, greatest)
	w.step(acked(1000), lost(1)) // not lossy
	w.bounds(2251, greatest, greatest)
	w.step(acked(greatest))
	w.bounds(greatest-1, greatest, greatest)
	w.step(acked(greatest))
	w.bounds(greatest-1, greatest, greatest)
	w.step(acked(1000), flight(1250))
	w.is(api.Down)
	w.bounds(greatest-1, greatest, greatest)
	// Not with that with which it ends.
	w = walks(t, small())
	w.step(lost(100))
	w.step()
	w.step(flight(850))
	w.step(after(2000000))
	w.step()
	w.bounds(2000, greatest, greatest)
	w.step(flight(1250))
	w.is(api.Down)
	w.bounds(2000, greatest, greatest)
}

// P15.1 (Z1: step 6): with a lossy round in which Up begins, no push; nor in any other state.
func TestNoPush(t *testing.T) {
	w := walks(t, small())
	w.step(lost(100))
	w.step()
	w.step(flight(850))
	w.step(after(2000000))
	w.step(lost(100), rate(70000))
	w.is(api.Up)
	w.bounds(1000, 1000, 70000)
	w = walks(t, small())
	w.step(lost(100))
	for _, x := range []struct {
		then   api.State
		change func(*bbr.Event)
	}{
		{api.Drain, flight(2000)},
		{api.Down, flight(1000)},
		{api.Down, flight(1000)},
		{api.Cruise, flight(850)},
		{api.Cruise, flight(850)},
		{api.ProbeRTT, func(x *bbr.Event) { x.Now, x.Sample.RTT = x.Now+5000000, 20000 }},
		{api.ProbeRTT, within},
		{api.Cruise, after(200000)},
		{api.Refill, after(2000000)},
		{api.Refill, within},
	} {
		w.step(x.change)
		w.is(x.then)
		w.bounds(1000, greatest, greatest)
	}
	// Where there is none, there is none behind it.
	w = walks(t, small())
	w.to(api.Up)
	w.step(acked(greatest))
	w.is(api.Up)
	w.bounds(greatest, greatest, greatest)
}
