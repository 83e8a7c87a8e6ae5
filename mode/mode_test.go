package mode_test

import (
	"math"
	"math/big"
	"testing"

	"goit/api"
	"goit/mode"
)

// greatest is the greatest number.
const greatest = math.MaxUint64

// states are the seven.
var states = []api.State{0, 1, 2, 3, 4, 5, 6}

// others are no states: those beside the first and the last one, the least and the greatest, and those that would be states in fewer bits.
var others = []api.State{-1, 7, -2, 8, -6, -7, 9, 10, 100, -100, 255, 256, 257, 262, -256, 1 << 31, 1 << 32, 1<<32 + 3, 1<<32 + 6, -1 << 31, -1 << 32, -1<<32 + 2, math.MaxInt, math.MaxInt - 1, math.MinInt, math.MinInt + 1, math.MinInt + 5}

// edges are numbers that 4 divides and does not, and those around which five quarters run over: those of 14757395258967641292 are 18446744073709551615, the greatest one.
var edges = []uint64{0, 1, 2, 3, 4, 5, 6, 7, 8, 100, 124, 125, 126, 1 << 62, 1 << 63, 14757395258967641291, 14757395258967641292, 14757395258967641293, greatest - 1, greatest}

// numbers are the edges, all small numbers, those where a product with 5, or five quarters, begin to run over, and many others.
func numbers() []uint64 {
	l := append([]uint64{}, edges...)
	for x := range uint64(1001) {
		l = append(l, x, greatest-x)
	}
	for _, top := range []uint64{greatest / 5, greatest / 5 * 2, greatest / 5 * 3, greatest / 5 * 4, 1 << 32, 1 << 62, 1 << 63} {
		for d := range uint64(41) {
			l = append(l, top-20+d)
		}
	}
	x := uint64(14)
	for range 3000 {
		x = x*6364136223846793005 + 1442695040888963407
		l = append(l, x>>(x>>32%64))
	}
	return l
}

// quarters is five quarters of a number, rounded down, without a bound up to the end.
func quarters(x uint64) uint64 {
	n := new(big.Int).SetUint64(x)
	n.Mul(n, big.NewInt(5))
	n.Quo(n, big.NewInt(4))
	if !n.IsUint64() {
		return greatest
	}
	return n.Uint64()
}

// row is one of the document's table: of some states, what is so, and what comes then.
type row struct {
	of   []api.State
	so   func(x api.Signal, five uint64) bool
	then func(x api.Signal) api.State
}

func to(s api.State) func(api.Signal) api.State { return func(api.Signal) api.State { return s } }

// table is the document's, row by row.
func table() []row {
	late := func(x api.Signal, _ uint64) bool { return x.Elapsed >= x.Wait }
	return []row{
		{[]api.State{0, 1, 2, 3, 4, 5}, func(x api.Signal, _ uint64) bool { return x.Stale }, to(6)},
		{[]api.State{0}, func(x api.Signal, _ uint64) bool { return x.Full || x.Lossy }, to(1)},
		{[]api.State{1}, func(x api.Signal, _ uint64) bool { return x.InFlight <= x.Target }, to(2)},
		{[]api.State{2}, func(x api.Signal, _ uint64) bool { return x.InFlight <= x.Target && x.InFlight <= x.Cap }, to(3)},
		{[]api.State{2}, late, to(4)},
		{[]api.State{3}, late, to(4)},
		{[]api.State{4}, func(x api.Signal, _ uint64) bool { return x.Rounds >= 1 }, to(5)},
		{[]api.State{5}, func(x api.Signal, _ uint64) bool { return x.Lossy }, to(2)},
		{[]api.State{5}, func(x api.Signal, five uint64) bool { return x.Rounds >= 1 && x.InFlight >= five }, to(2)},
		{[]api.State{6}, func(x api.Signal, _ uint64) bool { return x.Elapsed >= x.Wait && x.Rounds >= 1 }, func(x api.Signal) api.State {
			if x.Full {
				return 3
			}
			return 0
		}},
	}
}

// plain has the rows of each state.
type plain map[api.State][]row

func byState() plain {
	p := plain{}
	for _, r := range table() {
		for _, s := range r.of {
			p[s] = append(p[s], r)
		}
	}
	return p
}

// next is what should come behind a state: of the first row that is so. It is told five quarters of the signal's Target.
func (p plain) next(s api.State, x api.Signal, five uint64) api.State {
	for _, r := range p[s] {
		if r.so(x, five) {
			return r.then(x)
		}
	}
	return s
}

// signals calls f with all signals of all bools and these numbers: of bytes, of rounds, and of times; and with five quarters of Target.
func signals(bytes, rounds, times []uint64, f func(x api.Signal, five uint64)) {
	for _, target := range bytes {
		five := quarters(target)
		for _, flight := range bytes {
			for _, most := range bytes {
				for _, n := range rounds {
					for _, elapsed := range times {
						for _, wait := range times {
							for bits := range 16 {
								f(api.Signal{Full: bits&1 != 0, Round: bits&2 != 0, Lossy: bits&4 != 0, Stale: bits&8 != 0, InFlight: flight, Target: target, Cap: most, Rounds: n, Elapsed: elapsed, Wait: wait}, five)
							}
						}
					}
				}
			}
		}
	}
}

// few are all signals of a few numbers.
func few(f func(x api.Signal, five uint64)) {
	signals([]uint64{0, 1, 3, 4, 5, 6, greatest - 1, greatest}, []uint64{0, 1, 2, greatest}, []uint64{0, 1, 2, greatest}, f)
}

// idle is a signal that tells no state to go: each test makes of it what it is for.
func idle() api.Signal {
	return api.Signal{InFlight: 105, Target: 100, Cap: 90, Elapsed: 9, Wait: 10}
}

// P14.1 (M1: Next): behind what tells nothing each state stays.
func TestStay(t *testing.T) {
	for _, s := range states {
		for _, round := range []bool{false, true} {
			x := idle()
			x.Round = round
			if got := mode.Next(s, x); got != s {
				t.Errorf("Next(%d, %+v): %d", s, x, got)
			}
		}
	}
}

// change is what is done to an idle signal, and what comes behind it.
type change struct {
	name string
	do   func(x *api.Signal)
	want api.State
}

// hold holds Next against changes of an idle signal.
func hold(t *testing.T, s api.State, l ...change) {
	t.Helper()
	for _, c := range l {
		x := idle()
		c.do(&x)
		if got := mode.Next(s, x); got != c.want {
			t.Errorf("%d, %s: %d, not %d", s, c.name, got, c.want)
		}
	}
}

func bytes(flight, target, most uint64) func(x *api.Signal) {
	return func(x *api.Signal) { x.InFlight, x.Target, x.Cap = flight, target, most }
}

func times(elapsed, wait uint64) func(x *api.Signal) {
	return func(x *api.Signal) { x.Elapsed, x.Wait = elapsed, wait }
}

func all(l ...func(x *api.Signal)) func(x *api.Signal) {
	return func(x *api.Signal) {
		for _, f := range l {
			f(x)
		}
	}
}

func full(x *api.Signal)  { x.Full = true }
func lossy(x *api.Signal) { x.Lossy = true }
func stale(x *api.Signal) { x.Stale = true }
func late(x *api.Signal)  { x.Elapsed = x.Wait }

func rounds(n uint64) func(x *api.Signal) { return func(x *api.Signal) { x.Rounds = n } }

// P14.1 (M1: Next, Startup).
func TestStartup(t *testing.T) {
	hold(t, api.Startup,
		change{"full", full, api.Drain},
		change{"lossy", lossy, api.Drain},
		change{"both", all(full, lossy), api.Drain},
		change{"rounds", rounds(9), api.Startup},
		change{"late", late, api.Startup},
		change{"little in flight", bytes(0, 100, 100), api.Startup},
		change{"much in flight", all(bytes(1000, 100, 100), rounds(1)), api.Startup},
	)
}

// P14.1 (M1: Next, Drain).
func TestDrain(t *testing.T) {
	hold(t, api.Drain,
		change{"below", bytes(99, 100, 0), api.Down},
		change{"at", bytes(100, 100, 0), api.Down},
		change{"above", bytes(101, 100, greatest), api.Drain},
		change{"nothing", bytes(0, 0, 0), api.Down},
		change{"one of nothing", bytes(1, 0, greatest), api.Drain},
		change{"greatest", bytes(greatest, greatest, 0), api.Down},
		change{"greatest above", bytes(greatest, greatest-1, greatest), api.Drain},
		change{"above the cap", bytes(100, 100, 99), api.Down},
		change{"full, lossy, late, a round", all(full, lossy, late, rounds(1)), api.Drain},
	)
}

// P14.1 (M1: Next, Down; rule 7: the row that stands first).
func TestDown(t *testing.T) {
	hold(t, api.Down,
		change{"below both", bytes(99, 100, 100), api.Cruise},
		change{"at both", bytes(100, 100, 100), api.Cruise},
		change{"above both", bytes(101, 100, 100), api.Down},
		change{"at the target, below the cap", bytes(100, 100, 101), api.Cruise},
		change{"below the target, at the cap", bytes(99, 100, 99), api.Cruise},
		change{"at the target, above the cap", bytes(100, 100, 99), api.Down},
		change{"above the target, at the cap", bytes(100, 99, 100), api.Down},
		change{"far above the target, far below the cap", bytes(100, 0, greatest), api.Down},
		change{"far below the target, far above the cap", bytes(100, greatest, 0), api.Down},
		change{"nothing", bytes(0, 0, 0), api.Cruise},
		change{"greatest", bytes(greatest, greatest, greatest), api.Cruise},
		change{"in time", times(9, 10), api.Down},
		change{"just late", times(10, 10), api.Refill},
		change{"late", times(11, 10), api.Refill},
		change{"nothing to wait for", times(0, 0), api.Refill},
		change{"the greatest time", times(greatest, greatest), api.Refill},
		change{"one less", times(greatest-1, greatest), api.Down},
		change{"both rows, below", all(bytes(99, 100, 100), times(11, 10)), api.Cruise},
		change{"both rows, at", all(bytes(100, 100, 100), times(10, 10)), api.Cruise},
		change{"both rows, of nothing", all(bytes(0, 0, 0), times(0, 0)), api.Cruise},
		change{"late, at the target, above the cap", all(bytes(100, 100, 99), late), api.Refill},
		change{"full, lossy, a round", all(full, lossy, rounds(1)), api.Down},
	)
}

// P14.1 (M1: Next, Cruise).
func TestCruise(t *testing.T) {
	hold(t, api.Cruise,
		change{"in time", times(9, 10), api.Cruise},
		change{"just late", times(10, 10), api.Refill},
		change{"late", times(11, 10), api.Refill},
		change{"nothing to wait for", times(0, 0), api.Refill},
		change{"the first microsecond", times(0, 1), api.Cruise},
		change{"the greatest time", times(greatest, greatest), api.Refill},
		change{"one less", times(greatest-1, greatest), api.Cruise},
		change{"much in flight, late", all(bytes(1000, 100, 0), late), api.Refill},
		change{"little in flight", bytes(0, 100, 100), api.Cruise},
		change{"full, lossy, rounds", all(full, lossy, rounds(9)), api.Cruise},
	)
}

// P14.1 (M1: Next, Refill).
func TestRefill(t *testing.T) {
	hold(t, api.Refill,
		change{"no round", rounds(0), api.Refill},
		change{"a round", rounds(1), api.Up},
		change{"two", rounds(2), api.Up},
		change{"the most", rounds(greatest), api.Up},
		change{"this round, which the state does not count", func(x *api.Signal) { x.Round = true }, api.Refill},
		change{"late, full, lossy", all(late, full, lossy), api.Refill},
		change{"much in flight", bytes(1000, 100, 0), api.Refill},
		change{"little in flight", bytes(0, 100, 100), api.Refill},
	)
}

// P14.1 (M1: Next, Up).
func TestUp(t *testing.T) {
	hold(t, api.Up,
		change{"lossy", lossy, api.Down},
		change{"lossy, without anything in flight", all(lossy, bytes(0, 100, 100)), api.Down},
		change{"lossy, and much in flight", all(lossy, bytes(1000, 100, 100), rounds(1)), api.Down},
		change{"below", all(bytes(124, 100, 0), rounds(1)), api.Up},
		change{"at", all(bytes(125, 100, 0), rounds(1)), api.Down},
		change{"above", all(bytes(126, 100, 0), rounds(1)), api.Down},
		change{"at, two rounds", all(bytes(125, 100, 0), rounds(2)), api.Down},
		change{"at, the most rounds", all(bytes(125, 100, 0), rounds(greatest)), api.Down},
		change{"at, no round", bytes(125, 100, 0), api.Up},
		change{"far above, no round", bytes(greatest, 100, 0), api.Up},
		change{"far above, this round", all(bytes(greatest, 100, 0), func(x *api.Signal) { x.Round = true }), api.Up},
		change{"far below, many rounds", all(bytes(1, 100, 0), rounds(99)), api.Up},
		change{"nothing", all(bytes(0, 0, 0), rounds(1)), api.Down},
		change{"full, late", all(full, late), api.Up},
	)
	// Five quarters, rounded down.
	for _, x := range []struct{ target, five uint64 }{
		{1, 1}, {2, 2}, {3, 3}, {4, 5}, {5, 6}, {6, 7}, {7, 8}, {8, 10}, {9, 11}, {10, 12}, {11, 13}, {12, 15},
		{greatest / 5, 4611686018427387903}, {greatest/5 + 1, 4611686018427387905},
		{1 << 63, 11529215046068469760}, {14757395258967641290, 18446744073709551612}, {14757395258967641291, 18446744073709551613}, {14757395258967641292, greatest}, {14757395258967641293, greatest}, {greatest - 1, greatest}, {greatest, greatest},
	} {
		hold(t, api.Up,
			change{"just below five quarters", all(bytes(x.five-1, x.target, 0), rounds(1)), api.Up},
			change{"at five quarters", all(bytes(x.five, x.target, 0), rounds(1)), api.Down},
		)
	}
}

// P14.1 (M1: Next, Up; rule 10), five quarters against numbers without a bound.
func TestQuarters(t *testing.T) {
	for _, target := range numbers() {
		five := quarters(target)
		for d := range uint64(5) {
			flight := five + d - 2
			want := api.Up
			if flight >= five {
				want = api.Down
			}
			if got := mode.Next(api.Up, api.Signal{InFlight: flight, Target: target, Rounds: 1}); got != want {
				t.Errorf("%d in flight of %d: %d, not %d", flight, target, got, want)
			}
		}
	}
}

// P14.1 (M1: Next, ProbeRTT).
func TestProbe(t *testing.T) {
	hold(t, api.ProbeRTT,
		change{"in time", all(times(9, 10), rounds(1)), api.ProbeRTT},
		change{"just late", all(times(10, 10), rounds(1)), api.Startup},
		change{"late", all(times(11, 10), rounds(1)), api.Startup},
		change{"nothing to wait for", all(times(0, 0), rounds(1)), api.Startup},
		change{"in time, full", all(times(9, 10), rounds(1), full), api.ProbeRTT},
		change{"just late, full", all(times(10, 10), rounds(1), full), api.Cruise},
		change{"late, full", all(times(11, 10), rounds(1), full), api.Cruise},
		change{"nothing to wait for, full", all(times(0, 0), rounds(1), full), api.Cruise},
		change{"late, no round", times(11, 10), api.ProbeRTT},
		change{"late, no round, full", all(times(11, 10), full), api.ProbeRTT},
		change{"late, this round, full", all(times(11, 10), full, func(x *api.Signal) { x.Round = true }), api.ProbeRTT},
		change{"late, many rounds", all(times(11, 10), rounds(9)), api.Startup},
		change{"late, many rounds, full", all(times(11, 10), rounds(greatest), full), api.Cruise},
		change{"in time, many rounds", all(times(9, 10), rounds(greatest)), api.ProbeRTT},
		change{"lossy", all(lossy, full), api.ProbeRTT},
		change{"lossy, late, a round", all(lossy, late, rounds(1)), api.Startup},
	)
}

// P14.1 (M1: Next): Stale, alone, and with all that else is so.
func TestStale(t *testing.T) {
	rest := []func(x *api.Signal){func(*api.Signal) {}, full, lossy, late, rounds(1), bytes(0, 100, 100), all(bytes(125, 100, 0), rounds(1)), all(full, lossy, late, rounds(9), bytes(0, 0, 0))}
	for i, f := range rest {
		for _, s := range states[:6] {
			hold(t, s, change{"stale", all(f, stale), api.ProbeRTT})
		}
		// In ProbeRTT it alters nothing.
		x := idle()
		f(&x)
		fresh := mode.Next(api.ProbeRTT, x)
		x.Stale = true
		if got := mode.Next(api.ProbeRTT, x); got != fresh {
			t.Errorf("probe, %d: %d, not %d", i, got, fresh)
		}
	}
	hold(t, api.ProbeRTT,
		change{"stale", stale, api.ProbeRTT},
		change{"stale, late", all(stale, late), api.ProbeRTT},
		change{"stale, late, a round", all(stale, late, rounds(1)), api.Startup},
		change{"stale, late, a round, full", all(stale, late, rounds(1), full), api.Cruise},
	)
}

// P14.1 (M1: Next), against the table, at all signals of a few numbers, and P14.2 there; each arrow is gone along, and no other one.
func TestNextAll(t *testing.T) {
	p := byState()
	gone := map[[2]api.State]int{}
	few(func(x api.Signal, five uint64) {
		for _, s := range states {
			got := mode.Next(s, x)
			if want := p.next(s, x, five); got != want {
				t.Fatalf("Next(%d, %+v): %d, not %d", s, x, got, want)
			}
			gone[[2]api.State{s, got}]++
		}
	})
	for _, s := range states {
		for _, u := range states {
			if got, want := mode.Follows(s, u), gone[[2]api.State{s, u}] > 0; got != want {
				t.Errorf("Follows(%d, %d): %t, not %t", s, u, got, want)
			}
		}
	}
	for way := range gone {
		if !mode.Follows(way[0], way[1]) {
			t.Errorf("%d does not follow %d", way[1], way[0])
		}
	}
}

// P14.1 (M1: Next), and P14.2, likewise at many mixed signals.
func TestNextMixed(t *testing.T) {
	p, l := byState(), numbers()
	x := uint64(41)
	pick := func(n int) int {
		x = x*6364136223846793005 + 1442695040888963407
		return int(x >> 33 % uint64(n))
	}
	// near is a number, or one that lies beside another one.
	near := func(y uint64) uint64 {
		if pick(2) == 0 {
			return y + uint64(pick(5)) - 2
		}
		return l[pick(len(l))]
	}
	for range 500000 {
		z := api.Signal{Full: pick(2) == 0, Round: pick(2) == 0, Lossy: pick(2) == 0, Stale: pick(4) == 0, Target: l[pick(len(l))], Rounds: uint64(pick(3)), Wait: l[pick(len(l))]}
		five := quarters(z.Target)
		z.InFlight = near([]uint64{z.Target, five}[pick(2)])
		z.Cap, z.Elapsed = near(z.InFlight), near(z.Wait)
		s := states[pick(len(states))]
		got := mode.Next(s, z)
		if want := p.next(s, z, five); got != want {
			t.Fatalf("Next(%d, %+v): %d, not %d", s, z, got, want)
		}
		if !mode.Follows(s, got) {
			t.Fatalf("%d does not follow %d", got, s)
		}
	}
}

// P14.1 (M1: Next, Follows): no state stays, whatever is so, and follows nothing, not even itself.
func TestNextNone(t *testing.T) {
	signals([]uint64{0, 1, greatest}, []uint64{0, 1}, []uint64{0, 1}, func(x api.Signal, _ uint64) {
		for _, s := range others {
			if got := mode.Next(s, x); got != s {
				t.Fatalf("Next(%d, %+v): %d", s, x, got)
			}
		}
	})
	for s := api.State(-1000); s <= 1000; s++ {
		if 0 <= s && s <= 6 {
			continue
		}
		if got := mode.Next(s, api.Signal{Full: true, Round: true, Lossy: true, Stale: true, Rounds: 1}); got != s {
			t.Errorf("Next(%d): %d", s, got)
		}
		if mode.Follows(s, s) {
			t.Errorf("Follows(%d, %d)", s, s)
		}
	}
}

// P14.1 (M1: Wait), by hand.
func TestWait(t *testing.T) {
	for cycle, want := range []uint64{2000000, 2125000, 2250000, 2375000, 2500000, 2625000, 2750000, 2875000, 2000000, 2125000} {
		for _, s := range []api.State{api.Down, api.Cruise} {
			if got := mode.Wait(s, uint64(cycle), 7); got != want {
				t.Errorf("Wait(%d, %d, 7): %d, not %d", s, cycle, got, want)
			}
		}
	}
	for _, x := range []struct {
		state              api.State
		cycle, probe, want uint64
	}{
		{api.Down, greatest, 7, 2875000}, {api.Cruise, greatest, 7, 2875000},
		{api.Down, greatest - 7, 7, 2000000}, {api.Cruise, greatest - 7, 7, 2000000},
		{api.Down, 1 << 63, 7, 2000000}, {api.Cruise, 1<<63 + 1, 7, 2125000},
		{api.Down, 15, 0, 2875000}, {api.Cruise, 15, greatest, 2875000},
		{api.ProbeRTT, 0, 0, 0}, {api.ProbeRTT, 5, 0, 0}, {api.ProbeRTT, 5, 1, 1}, {api.ProbeRTT, 0, 200000, 200000}, {api.ProbeRTT, greatest, greatest, greatest}, {api.ProbeRTT, 8, greatest - 1, greatest - 1},
		{api.Startup, 5, 7, 0}, {api.Drain, 5, 7, 0}, {api.Refill, 5, 7, 0}, {api.Up, 5, 7, 0},
	} {
		if got := mode.Wait(x.state, x.cycle, x.probe); got != x.want {
			t.Errorf("Wait(%d, %d, %d): %d, not %d", x.state, x.cycle, x.probe, got, x.want)
		}
	}
}

// P14.1 (M1: Wait), at many numbers, and of what is no state.
func TestWaitAll(t *testing.T) {
	for _, cycle := range numbers() {
		left := cycle - cycle/8*8
		for _, probe := range []uint64{0, 1, 200000, greatest, cycle} {
			for _, s := range states {
				want := uint64(0)
				if s == 2 || s == 3 {
					want = 2000000 + left*125000
				}
				if s == 6 {
					want = probe
				}
				if got := mode.Wait(s, cycle, probe); got != want {
					t.Errorf("Wait(%d, %d, %d): %d, not %d", s, cycle, probe, got, want)
				}
			}
			for _, s := range others {
				if got := mode.Wait(s, cycle, probe); got != 0 {
					t.Errorf("Wait(%d, %d, %d): %d", s, cycle, probe, got)
				}
			}
		}
	}
}

// P14.1 (M1: Follows), any two of the seven: a line for each state, a place for each that may come behind it.
func TestFollows(t *testing.T) {
	for s, line := range []string{
		"xx    x", // Startup: Drain
		" xx   x", // Drain: Down
		"  xxx x", // Down: Cruise, Refill
		"   xx x", // Cruise: Refill
		"    xxx", // Refill: Up
		"  x  xx", // Up: Down
		"x  x  x", // ProbeRTT: Startup, Cruise
	} {
		for u, c := range line {
			if got, want := mode.Follows(api.State(s), api.State(u)), c == 'x'; got != want {
				t.Errorf("Follows(%d, %d): %t, not %t", s, u, got, want)
			}
		}
	}
}

// P14.1 (M1: Follows), of what is no state, either one and both.
func TestFollowsNone(t *testing.T) {
	for _, s := range others {
		for _, u := range states {
			if mode.Follows(s, u) {
				t.Errorf("Follows(%d, %d)", s, u)
			}
			if mode.Follows(u, s) {
				t.Errorf("Follows(%d, %d)", u, s)
			}
		}
		for _, u := range others {
			if mode.Follows(s, u) {
				t.Errorf("Follows(%d, %d)", s, u)
			}
		}
	}
	for s := api.State(-100); s <= 100; s++ {
		for u := api.State(-100); u <= 100; u++ {
			right := 0 <= s && s <= 6 && 0 <= u && u <= 6
			if !right && mode.Follows(s, u) {
				t.Errorf("Follows(%d, %d)", s, u)
			}
		}
	}
}

// P14.2 (arrows): what comes next follows, at all signals of a few numbers; nothing follows what is no state.
func TestArrows(t *testing.T) {
	signals([]uint64{0, 4, 5, 6, greatest}, []uint64{0, 1, 2}, []uint64{0, 1, greatest}, func(x api.Signal, _ uint64) {
		for _, s := range states {
			if next := mode.Next(s, x); !mode.Follows(s, next) {
				t.Fatalf("Next(%d, %+v): %d, which does not follow", s, x, next)
			}
		}
	})
	for _, s := range others {
		if next := mode.Next(s, api.Signal{Stale: true}); mode.Follows(s, next) {
			t.Errorf("Next(%d): %d, which follows", s, next)
		}
	}
}

// P1, P2: each call ends, and what it answers hangs on its arguments alone, whatever was asked ahead of it.
func TestAgain(t *testing.T) {
	type question struct {
		s, u   api.State
		signal api.Signal
	}
	type answers struct {
		next    api.State
		wait    uint64
		follows bool
	}
	first := map[question]answers{}
	x := uint64(6)
	pick := func(n uint64) uint64 {
		x = x*6364136223846793005 + 1442695040888963407
		return x >> 33 % n
	}
	for range 60000 {
		q := question{api.State(pick(9)) - 1, api.State(pick(9)) - 1, api.Signal{Full: pick(2) == 0, Lossy: pick(2) == 0, Stale: pick(2) == 0, InFlight: 5, Target: 4 + pick(2), Cap: 5, Rounds: pick(2), Elapsed: pick(2), Wait: 1}}
		a := answers{mode.Next(q.s, q.signal), mode.Wait(q.s, q.signal.Rounds, q.signal.Elapsed), mode.Follows(q.s, q.u)}
		if before, ok := first[q]; ok && a != before {
			t.Fatalf("%v: %v, and %v ahead of that", q, a, before)
		}
		first[q] = a
	}
	if len(first) != 81*64 {
		t.Errorf("%d questions", len(first))
	}
}
