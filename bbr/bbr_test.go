package bbr_test

import (
	"testing"

	"goit/api"
	"goit/bbr"
	"goit/bound"
	"goit/conf"
)

// small is a setup whose numbers are easy to follow: Least is 40, First 100, a quantum from 20 to 640; a millisecond at 100000 bytes a second has 100 bytes.
func small() api.Conf {
	return api.Conf{MSS: 10, Init: 10, Reorder: 3, Window: 10000000, ProbeLen: 200000, Loss: 20}
}

// walk is a pair on a path of 100000 bytes a second, and a round trip of 10000 microseconds: it holds 1000 bytes.
type walk struct {
	*pair
	now, delivered uint64
}

func walks(t *testing.T, c api.Conf) *walk {
	t.Helper()
	return &walk{pair: newPair(t, c)}
}

// next is the walk's next event: a round is over behind it, in which 1000 bytes were delivered.
func (w *walk) next() bbr.Event {
	return bbr.Event{
		Now:       w.now + 10000,
		Sample:    api.Sample{Delivered: 1000, Interval: 10000, Rate: 100000, RTT: 10000},
		Some:      true,
		Delivered: w.delivered + 1000,
		Acked:     1000,
		InFlight:  1000,
	}
}

// step tells an event, changed, if someone wants that.
func (w *walk) step(changes ...func(x *bbr.Event)) {
	w.t.Helper()
	x := w.next()
	for _, change := range changes {
		change(&x)
	}
	w.tell(x)
	w.now, w.delivered = max(w.now, x.Now), max(w.delivered, x.Delivered)
}

// These change an event.

func flight(n uint64) func(*bbr.Event) { return func(x *bbr.Event) { x.InFlight = n } }
func acked(n uint64) func(*bbr.Event)  { return func(x *bbr.Event) { x.Acked = n } }
func lost(n uint64) func(*bbr.Event)   { return func(x *bbr.Event) { x.Lost = n } }
func rate(n uint64) func(*bbr.Event)   { return func(x *bbr.Event) { x.Sample.Rate = n } }
func rtt(n uint64) func(*bbr.Event)    { return func(x *bbr.Event) { x.Sample.RTT = n } }
func at(n uint64) func(*bbr.Event)     { return func(x *bbr.Event) { x.Now = n } }

func brought(n uint64) func(*bbr.Event) {
	return func(x *bbr.Event) { x.Sample.Delivered = n }
}

// after lets the event come so many microseconds behind the one ahead, rather than 10000.
func after(n uint64) func(*bbr.Event) { return func(x *bbr.Event) { x.Now += n - 10000 } }

func limited(x *bbr.Event) { x.Sample.Limited = true }

// within lets the event's packet have been sent ahead of the round: none is over.
func within(x *bbr.Event) { x.Sample.Delivered = x.Delivered }

// without takes the sample away.
func without(x *bbr.Event) { x.Sample, x.Some = api.Sample{}, false }

// to walks from the beginning to a state, on the shortest way that ordinary rounds take.
func (w *walk) to(s api.State) {
	w.t.Helper()
	if s == api.ProbeRTT {
		w.step()
		w.step(without, acked(0), after(5000001))
	} else {
		for range []int{0, 4, 5, 6, 7, 8}[s] {
			switch w.State() {
			case api.Startup:
				w.step(flight(2000))
			case api.Cruise:
				w.step(after(2000000))
			default:
				w.step()
			}
		}
	}
	w.is(s)
}

// is holds the state.
func (w *walk) is(s api.State) {
	w.t.Helper()
	if w.State() != s {
		w.t.Fatalf("behind event %d, state %d, not %d", w.n, w.State(), s)
	}
}

// has holds a number.
func (w *walk) has(name string, got, want uint64) {
	w.t.Helper()
	if got != want {
		w.t.Errorf("behind event %d, in state %d: %s %d, not %d", w.n, w.State(), name, got, want)
	}
}

// tells holds what an engine is asked for most: the state, cwnd, and the pace.
func (w *walk) tells(s api.State, cwnd, pace uint64) {
	w.t.Helper()
	w.is(s)
	w.has("cwnd", w.Cwnd(), cwnd)
	w.has("pace", w.Pace(), pace)
}

// bounds holds the bounds.
func (w *walk) bounds(hi, lo, bw uint64) {
	w.t.Helper()
	if got, want := w.Limits(), (bound.Bounds{Hi: hi, Lo: lo, Bw: bw}); got != want {
		w.t.Errorf("behind event %d, in state %d: bounds %v, not %v", w.n, w.State(), got, want)
	}
}

// P15.1 (Z1: New): a setup that may be.
func TestNew(t *testing.T) {
	c := api.Conf{MSS: 1, Init: 4, Reorder: 1, Window: 1, ProbeLen: 1}
	most := api.Conf{MSS: 65535, Init: 1000, Reorder: 100, Window: 1 << 40, ProbeLen: 1 << 40, Loss: 1000}
	for _, x := range []struct {
		c                                api.Conf
		cwnd, pace, quantum, least, best uint64
	}{
		{conf.Default(), 15000, 41550000, 41550, 1000, 15000000},
		{small(), 100, 277000, 277, 1000, 100000},
		{c, 4, 11080, 11, 1000, 4000},
		{most, 65535000, 181531950000, 4194240, 1000, 65535000000},
	} {
		w := walks(t, x.c)
		w.tells(api.Startup, x.cwnd, x.pace)
		w.has("quantum", w.Quantum(), x.quantum)
		w.has("least", w.Engine.Least(), x.least)
		w.has("best", w.Engine.Best(), x.best)
		w.bounds(greatest, greatest, greatest)
	}
}

// P15.1 (Z1: New): one that may not be, number by number.
func TestNewWrong(t *testing.T) {
	for _, change := range []func(*api.Conf){
		func(c *api.Conf) { *c = api.Conf{} },
		func(c *api.Conf) { c.MSS = 0 },
		func(c *api.Conf) { c.MSS = 65536 },
		func(c *api.Conf) { c.MSS = greatest },
		func(c *api.Conf) { c.Init = 0 },
		func(c *api.Conf) { c.Init = 3 },
		func(c *api.Conf) { c.Init = 1001 },
		func(c *api.Conf) { c.Init = greatest },
		func(c *api.Conf) { c.Reorder = 0 },
		func(c *api.Conf) { c.Reorder = 101 },
		func(c *api.Conf) { c.Reorder = greatest },
		func(c *api.Conf) { c.Window = 0 },
		func(c *api.Conf) { c.Window = 1<<40 + 1 },
		func(c *api.Conf) { c.Window = greatest },
		func(c *api.Conf) { c.ProbeLen = 0 },
		func(c *api.Conf) { c.ProbeLen = 1<<40 + 1 },
		func(c *api.Conf) { c.ProbeLen = greatest },
		func(c *api.Conf) { c.Loss = 1001 },
		func(c *api.Conf) { c.Loss = greatest },
	} {
		c := small()
		change(&c)
		if e, err := bbr.New(c); e != nil || err != api.ErrArg {
			t.Errorf("New(%+v) = %v, %d", c, e, err)
		}
	}
}

// P15.1 (Z1): a way through all states but ProbeRTT, with nothing lost.
func TestStates(t *testing.T) {
	w := walks(t, small())
	w.step(flight(2000))
	w.tells(api.Startup, 1100, 277000)
	w.step(flight(2000))
	w.tells(api.Startup, 2100, 277000)
	w.step(flight(2000))
	w.tells(api.Startup, 3100, 277000)
	w.step(flight(2000)) // the third rate that is not five quarters of the first one: the pipe is full
	w.tells(api.Drain, 2036, 36000)
	w.step(flight(1001)) // more than the path holds
	w.tells(api.Drain, 2036, 36000)
	w.step()
	w.tells(api.Down, 2075, 75000)
	w.step(flight(1001))
	w.tells(api.Down, 2075, 75000)
	w.step()
	w.tells(api.Cruise, 2100, 100000)
	w.step(after(1999999))
	w.tells(api.Cruise, 2100, 100000)
	w.step(after(1))
	w.tells(api.Refill, 2100, 100000)
	w.step(within)
	w.tells(api.Refill, 2100, 100000)
	w.step()
	w.tells(api.Up, 2375, 125000)
	w.step(flight(1249))
	w.tells(api.Up, 2375, 125000)
	w.step(flight(1250), within) // a round was over since
	w.tells(api.Down, 2075, 75000)
	w.step(flight(1250), after(2124999)) // the second cycle waits a step more
	w.tells(api.Down, 2075, 75000)
	w.step(flight(1250), after(1))
	w.tells(api.Refill, 2100, 100000)
	w.step(flight(1250))
	w.tells(api.Up, 2375, 125000)
	w.step(flight(1250))
	w.tells(api.Down, 2075, 75000)
}

// P15.1 (Z1): Up without a round, though much is in flight; with one it is over.
func TestUpWithoutRound(t *testing.T) {
	w := walks(t, small())
	w.to(api.Up)
	w.step(flight(9000), within)
	w.is(api.Up)
	w.step(flight(9000), without)
	w.is(api.Up)
	w.step(flight(9000))
	w.is(api.Down)
}

// P15.1 (Z1: step 1): what was acknowledged, and lost, is counted up to the round's end, with a sample or without; as much as Loss is not lossy, more is.
func TestCounts(t *testing.T) {
	for _, x := range []struct {
		lost, acked uint64
		lossy       bool
	}{
		{20, 980, false},
		{21, 980, true},
		{20, 979, true},
		{20, 981, false},
		{19, 980, false},
		{0, 0, false},
		{1, 0, true},
		{1, 49, false},
		{1, 48, true},
	} {
		// All at once; in three events; the lost bytes ahead of the others.
		for way := range 3 {
			w := walks(t, small())
			switch way {
			case 0:
				w.step(lost(x.lost), acked(x.acked))
			case 1:
				w.step() // till then every event ends a round
				w.step(lost(x.lost/2), acked(x.acked/2), within)
				w.step(lost(x.lost-x.lost/2), acked(0), without)
				w.step(lost(0), acked(x.acked-x.acked/2))
			case 2:
				w.step(lost(x.lost), acked(0), without)
				w.step(lost(0), acked(x.acked))
			}
			if got := w.State() == api.Drain; got != x.lossy {
				t.Errorf("%d lost, %d acknowledged, way %d: lossy %t", x.lost, x.acked, way, got)
			}
		}
	}
}

// P15.1 (Z1: step 3): both counts are 0 once a round is over.
func TestCountsAnew(t *testing.T) {
	w := walks(t, small())
	w.step(lost(20), acked(980))
	w.is(api.Startup)
	w.step(lost(1), acked(60)) // with 20 more it were lossy
	w.is(api.Startup)
	w.step(lost(0), acked(980))
	w.is(api.Startup)
	w = walks(t, small())
	w.step(lost(0), acked(980))
	w.step(lost(2), acked(90)) // with 980 more it were not
	w.is(api.Drain)
	w = walks(t, small())
	w.step(lost(500), acked(500)) // lossy
	w.is(api.Drain)
	w.step(lost(1), acked(60)) // not so
	w.bounds(1000, greatest, greatest)
}

// P15.1 (Z1: step 3): a setup's Loss of nothing, and of all, and where sums and products run over.
func TestLossEnds(t *testing.T) {
	const top = greatest / 1000
	for _, x := range []struct {
		loss, lost, acked uint64
		lossy             bool
	}{
		{0, 0, 0, false},
		{0, 0, greatest, false},
		{0, 1, greatest, true},
		{0, greatest, 0, true},
		{1000, 1, 0, false},
		{1000, 1000, 0, false},
		{1000, greatest, 0, false},
		{1000, greatest, greatest, false},
		{1, 1, 999, false},
		{1, 1, 998, true},
		{999, 999, 1, false},
		{999, 1000, 1, true},
		{1, top + 1, 0, true},              // what runs over is the greatest number, and that above another one
		{1, top + 1, greatest, false},      // but not above itself
		{1, 1 << 63, 1 << 63, false},       // nor is the sum 0
		{1, greatest, 0, false},            // both run over
		{2, 1 << 63, 0, false},             // so do both products
		{1, top, greatest - top, false},    // one does not
		{2, top, greatest / 2, false},      // top by 1000 is 615 less than the greatest number
		{2, top, 1<<63 - 308 - top, false}, // so is that sum by 2
		{2, top, 1<<63 - 309 - top, true},
		{999, top + 1, 0, true},
		{1000, top + 1, 0, false},
	} {
		c := small()
		c.Loss = x.loss
		w := walks(t, c)
		w.step(lost(x.lost), acked(x.acked))
		if got := w.State() == api.Drain; got != x.lossy {
			t.Errorf("loss %d, %d lost, %d acknowledged: lossy %t", x.loss, x.lost, x.acked, got)
		}
		// Counts that run over are the greatest number, too.
		w = walks(t, c)
		w.step(lost(x.lost/2), acked(x.acked/2), without)
		w.step(lost(x.lost-x.lost/2), acked(x.acked-x.acked/2), without)
		w.step(lost(0), acked(0))
		if got := w.State() == api.Drain; got != x.lossy {
			t.Errorf("loss %d, %d lost, %d acknowledged, one behind the other: lossy %t", x.loss, x.lost, x.acked, got)
		}
	}
	c := small()
	c.Loss = 1
	w := walks(t, c)
	w.step(lost(1<<63), acked(1), without)
	w.step(lost(1<<63), acked(1), without)
	w.step(lost(0), acked(0))
	w.is(api.Startup) // both products are the greatest number
	c.Loss = 0
	w = walks(t, c)
	w.step(lost(1<<63), acked(1), without)
	w.step(lost(1<<63), acked(1), without)
	w.step(lost(0), acked(0))
	w.is(api.Drain) // the sum is not 0
}

// P15.1 (Z1: step 2): the filter's time, and what it is put.
func TestLeast(t *testing.T) {
	w := walks(t, small())
	w.step(at(100), rtt(50))
	w.has("least", w.Engine.Least(), 50)
	w.step(at(200), rtt(70))
	w.has("least", w.Engine.Least(), 50)
	w.step(at(199), rtt(20)) // behind: its RTT is not put
	w.has("least", w.Engine.Least(), 50)
	w.step(at(200), rtt(60)) // not behind
	w.step(at(10000100), without)
	w.has("least", w.Engine.Least(), 50)
	w.step(at(10000099), rtt(1), within)
	w.has("least", w.Engine.Least(), 50)
	w.step(at(10000101), without)
	w.has("least", w.Engine.Least(), 60)
	w.step(at(50), without) // behind: the filter's time stays
	w.has("least", w.Engine.Least(), 60)
	w.step(at(10000200), without)
	w.has("least", w.Engine.Least(), 60)
	w.step(at(10000201), without)
	w.has("least", w.Engine.Least(), 1000)
	w.step(at(10000201), rtt(2000))
	w.has("least", w.Engine.Least(), 2000)
	w.step(at(10000201), rtt(0))
	w.has("least", w.Engine.Least(), 0)
	w.step(at(greatest), without)
	w.has("least", w.Engine.Least(), 1000)
	w.step(at(greatest), rtt(greatest))
	w.has("least", w.Engine.Least(), greatest)
	w.step(at(greatest), rtt(greatest-1))
	w.has("least", w.Engine.Least(), greatest-1)
}

// P15.1 (Z1: step 2): a round trip at time 0 is one.
func TestLeastAtNought(t *testing.T) {
	w := walks(t, small())
	w.step(at(0), rtt(7))
	w.has("least", w.Engine.Least(), 7)
	w.step(at(0), without)
	w.has("least", w.Engine.Least(), 7)
}

// P15.1 (Z1: step 2): no sample, and yet its numbers: nobody looks at them.
func TestNoSample(t *testing.T) {
	w := walks(t, small())
	w.step()
	w.step(func(x *bbr.Event) {
		x.Some = false
		x.Sample.Rate, x.Sample.RTT = 200000, 10
	}, lost(900))
	w.tells(api.Startup, 2100, 277000)
	w.has("least", w.Engine.Least(), 10000)
	w.has("best", w.Engine.Best(), 100000)
	// That was no round: the bytes that were lost are this one's, which may be over at once, since the mark is as it was.
	w.step(acked(0), func(x *bbr.Event) { x.Delivered, x.Sample.Delivered = 1000, 0 })
	w.is(api.Drain)
}

// P15.1 (Z1: step 2): without a sample the pipe is put nothing: it does not get full.
func TestNoSampleNoPipe(t *testing.T) {
	w := walks(t, small())
	w.step()
	for range 9 {
		w.step(without)
		w.is(api.Startup)
	}
	w.step()
	w.step()
	w.is(api.Startup)
	w.step()
	w.is(api.Drain)
}

// P15.1 (Z1: step 2): a round is over, if the bytes that were delivered when the packet was sent are as many as when the round began.
func TestRound(t *testing.T) {
	for _, x := range []struct {
		delivered, brought uint64
		over               bool
	}{
		{2000, 1000, true}, // sent at 1000, when the round began
		{2000, 1001, false},
		{2000, 999, true},
		{1000, 0, true},
		{999, 0, false},
		{2000, 0, true},
		{2000, 2000, false},
		{2000, greatest, false}, // less than 0 is 0
		{greatest, greatest, false},
		{greatest, 0, true},
		{greatest, greatest - 1000, true},
		{greatest, greatest - 999, false},
		{0, 0, false},
	} {
		w := walks(t, small())
		w.step()
		w.step(lost(900), func(e *bbr.Event) { e.Delivered, e.Sample.Delivered = x.delivered, x.brought })
		if got := w.State() == api.Drain; got != x.over {
			t.Errorf("%d delivered, %d of them since: over %t", x.delivered, x.brought, got)
		}
	}
}

// P15.1 (Z1: step 2): the first round is over with the first sample, whatever that is.
func TestFirstRound(t *testing.T) {
	for _, n := range []uint64{0, 1, 1000, 1001, greatest} {
		w := walks(t, small())
		w.step(lost(900), brought(n))
		w.is(api.Drain)
	}
}

// P15.1 (Z1: step 2): which rates are put into the cycle filter.
func TestRates(t *testing.T) {
	for _, x := range []struct {
		rate    uint64
		limited bool
		best    uint64
	}{
		{100001, false, 100001},
		{100000, false, 100000},
		{99999, false, 100000},
		{0, false, 100000},
		{greatest, false, greatest},
		{100001, true, 100001},
		{100000, true, 100000},
		{99999, true, 100000},
		{0, true, 100000},
		{greatest, true, greatest},
	} {
		for _, change := range []func(*bbr.Event){func(*bbr.Event) {}, within, at(0)} {
			w := walks(t, small())
			w.step()
			w.step(rate(x.rate), func(e *bbr.Event) { e.Sample.Limited = x.limited }, change)
			w.has("best", w.Engine.Best(), x.best)
		}
	}
}

// P15.1 (Z1: step 2): a rate that was put is one of its own cycle: it is there still in the next one, when those ahead are not.
func TestRatesByCycles(t *testing.T) {
	for _, x := range []struct {
		rate    uint64
		limited bool
		best    uint64 // a cycle later; 10000 is that of 100 bytes at first, and 10000 microseconds
	}{
		{99999, false, 99999},
		{1, false, 1},
		{0, false, 10000},
		{100000, true, 100000},
		{99999, true, 10000},
		{1, true, 10000},
		{0, true, 10000},
	} {
		w := walks(t, small())
		w.to(api.Up)
		w.step(flight(2000))
		w.is(api.Down)
		w.has("best", w.Engine.Best(), 100000) // of the cycle ahead
		w.step(rate(x.rate), func(e *bbr.Event) { e.Sample.Limited = x.limited })
		w.is(api.Cruise)
		w.has("best", w.Engine.Best(), 100000)
		w.step(rate(0), limited, after(2125000))
		w.is(api.Refill)
		w.step(rate(0), limited)
		w.is(api.Up)
		w.step(rate(0), limited, flight(2000))
		w.is(api.Down)
		w.has("best", w.Engine.Best(), x.best)
	}
}

// P15.1 (Z1: step 3): what the pipe is put: the cycle filter's best, behind this event's rate; only a round's end, and a sample that is not Limited, count.
func TestPipe(t *testing.T) {
	for _, x := range []struct {
		fourth uint64
		full   bool
	}{
		{100000, true},
		{124999, true},
		{125000, false},
		{greatest, false},
	} {
		w := walks(t, small())
		for range 3 {
			w.step()
		}
		w.step(rate(x.fourth))
		if got := w.State() == api.Drain; got != x.full {
			t.Errorf("behind a fourth rate of %d: full %t", x.fourth, got)
		}
	}
	w := walks(t, small())
	for range 9 {
		w.step(limited)
		w.step(within)
		w.step(limited, within)
		w.is(api.Startup)
	}
	w.step() // the first one that counts
	w.step()
	w.step()
	w.is(api.Startup)
	w.step(within)
	w.step(limited)
	w.is(api.Startup)
	w.step()
	w.is(api.Drain)
	// A rate below the best one is not what the pipe is put: it is put the best one.
	w = walks(t, small())
	w.step(rate(100))
	w.step(rate(125))
	w.step(rate(150), within) // the pipe has 125
	w.step(rate(1))           // 150
	w.step(rate(157), within)
	w.step(rate(1)) // 157 is five quarters of 125: the pipe has that
	w.step(rate(1))
	w.step(rate(1))
	w.is(api.Startup)
	w.step(rate(1))
	w.is(api.Drain)
}

// P15.1 (Z1: step 3): an odd thing: with a best rate of 0 the pipe gets no fuller, as 0 is five quarters of 0; nor is what First makes of it put.
func TestPipeOfNought(t *testing.T) {
	w := walks(t, small())
	for range 9 {
		w.step(rate(0))
		w.is(api.Startup)
		w.has("best", w.Engine.Best(), 10000)
	}
	w.step(rate(1))
	for range 3 {
		w.is(api.Startup)
		w.has("best", w.Engine.Best(), 1)
		w.step(rate(0))
	}
	w.is(api.Drain)
}
