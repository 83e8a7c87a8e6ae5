package bbr_test

import (
	"testing"

	"goit/api"
	"goit/bbr"
)

// P15.1 (Z1: step 7): in Startup, till the pipe is full, cwnd is as much more as is acknowledged, with a sample or without, within a round or not; MaxBytes at most.
func TestCwndStartup(t *testing.T) {
	w := walks(t, small())
	w.step(acked(7))
	w.has("cwnd", w.Cwnd(), 107)
	w.step(acked(5000), within)
	w.has("cwnd", w.Cwnd(), 5107)
	w.step(acked(90000), without)
	w.has("cwnd", w.Cwnd(), 95107)
	w.step(acked(0))
	w.has("cwnd", w.Cwnd(), 95107)
	w.step(acked(api.MaxBytes-95108), within)
	w.has("cwnd", w.Cwnd(), api.MaxBytes-1)
	w.step(acked(1), within)
	w.has("cwnd", w.Cwnd(), api.MaxBytes)
	w.step(acked(1), within)
	w.has("cwnd", w.Cwnd(), api.MaxBytes)
	w.step(acked(greatest), within)
	w.has("cwnd", w.Cwnd(), api.MaxBytes)
	w.step(acked(0))
	w.tells(api.Startup, api.MaxBytes, 277000)
	w.step(acked(0)) // full
	w.tells(api.Drain, 2036, 36000)
}

// P15.1 (Z1: step 7): in each state, the state's Window of what may be used, and the quantum of its pace, rounded up both; below that, what is acknowledged.
func TestCwndWindow(t *testing.T) {
	for s, x := range []struct{ cwnd, pace, quantum uint64 }{
		api.Startup:  {100, 277000, 277},
		api.Drain:    {2036, 36000, 36},
		api.Down:     {2075, 75000, 75},
		api.Cruise:   {2100, 100000, 100},
		api.Refill:   {2100, 100000, 100},
		api.Up:       {2375, 125000, 125},
		api.ProbeRTT: {500, 100000, 100},
	} {
		w := walks(t, small())
		w.to(api.State(s))
		w.tells(api.State(s), x.cwnd, x.pace)
		w.has("quantum", w.Quantum(), x.quantum)
		if api.State(s) == api.Startup {
			continue
		}
		w.step(acked(0), flight(1100), within)
		w.tells(api.State(s), x.cwnd, x.pace)
		w.step(acked(100000), flight(1100), within)
		w.tells(api.State(s), x.cwnd, x.pace)
		// A path that holds three times as much: what is acknowledged tells.
		w.step(acked(100), flight(9000), within, rate(300000))
		w.tells(api.State(s), x.cwnd+100, 3*x.pace)
		w.step(acked(1), flight(9000), within)
		w.tells(api.State(s), x.cwnd+101, 3*x.pace)
	}
}

// P15.1 (Z1: step 7): what may be used is by the short bound of the rate, and the least round trip; both are rounded up, at what the path holds, and at the Window.
func TestCwndUses(t *testing.T) {
	for _, x := range []struct{ bw, rtt, cwnd uint64 }{
		{100000, 10000, 1470}, // as much as Lo
		{50000, 10000, 1050},
		{50001, 10000, 1052}, // 501 bytes
		{50000, 9999, 1050},
		{50000, 5000, 550},
		{50000, 5001, 552},
		{10000, 10000, 220}, // two packets are the quantum
		{1000, 10000, 40},
		{900, 10000, 40}, // 9 bytes: 18, and 20, are not 40
		{0, 10000, 40},
	} {
		w := walks(t, small())
		w.to(api.Cruise)
		w.step(lost(100), rate(x.bw), rtt(x.rtt), brought(0), flight(1100))
		w.is(api.Cruise)
		w.bounds(greatest, 1470, x.bw)
		w.has("cwnd", w.Cwnd(), x.cwnd)
		w.has("pace", w.Pace(), max(x.bw, 40))
	}
	// In Up 225 hundredths, rounded up.
	w := walks(t, small())
	w.to(api.Up)
	w.step(rtt(9990), flight(1100)) // 999 bytes: 2247 and 75 hundredths
	w.tells(api.Up, 2373, 125000)
}

// P15.1 (Z1: step 7): ProbeRTT's Window, of half of what may be used, rounded up, without a quantum.
func TestCwndProbe(t *testing.T) {
	for _, x := range []struct{ rtt, cwnd uint64 }{
		{10000, 500}, {9990, 500}, {9980, 499}, {810, 41}, {800, 40}, {790, 40}, {780, 40}, {1, 40}, {0, 40},
	} {
		w := walks(t, small())
		w.to(api.ProbeRTT)
		w.step(rtt(x.rtt))
		w.tells(api.ProbeRTT, x.cwnd, 100000)
	}
	// With a short bound of the rate.
	w := walks(t, small())
	w.to(api.ProbeRTT)
	w.step(lost(100), rate(60000), brought(0))
	w.tells(api.ProbeRTT, 300, 60000)
	w.bounds(greatest, 350, 60000)
	w.step(lost(100), rate(60000), brought(0))
	w.tells(api.ProbeRTT, 245, 60000)
	w.bounds(greatest, 245, 60000)
}

// P15.1 (Z1: step 7): the bounds' Cap, in each state; in Down, and Cruise, also the long one's Room, and nowhere else.
func TestCwndCap(t *testing.T) {
	for _, x := range []struct {
		hi                                 uint64
		drain, down, cruise, refill, probe uint64
	}{
		{1000, 1000, 850, 850, 1000, 500},
		{999, 999, 849, 849, 999, 500},
		{1001, 1001, 850, 850, 1001, 500},
		{2040, 1100, 1734, 1734, 2040, 500},
		{2480, 1100, 2075, 2100, 2100, 500},
		{9000, 1100, 2075, 2100, 2100, 500},
		{700, 700, 595, 595, 700, 500},
	} {
		w := walks(t, small())
		w.step(lost(100), flight(x.hi))
		w.bounds(x.hi, greatest, greatest)
		w.tells(api.Drain, x.drain, 36000)
		w.step(flight(1000))
		w.tells(api.Down, x.down, 75000)
		w.step(flight(500))
		w.tells(api.Cruise, x.cruise, 100000)
		w.step(after(2000000))
		w.tells(api.Refill, x.refill, 100000)
		w.step(rtt(20000), after(5000001))
		w.tells(api.ProbeRTT, x.probe, 100000)
		w.bounds(x.hi, greatest, greatest)
	}
}

// P15.1 (Z1: step 7): the Cap binds in Startup, and ProbeRTT, too.
func TestCwndCapProbe(t *testing.T) {
	c := small()
	w := walks(t, c)
	w.step()
	w.tells(api.Startup, 1100, 277000)
	w.step(rtt(20000), after(5000001), lost(100), rate(1000000), flight(400)) // lossy in Startup, and stale
	w.tells(api.ProbeRTT, 2100, 1000000)
	w.bounds(7000, greatest, greatest)
	w.step(rtt(20000), after(1), lost(900), flight(0), brought(300))
	w.bounds(7000, 1470, 100000)
	w.tells(api.ProbeRTT, 500, 100000)
	w.step(rtt(20000), after(199999), acked(9000), lost(0))
	w.tells(api.Startup, 1470, 277000)
	w.step(acked(9000), rate(1000000), within)
	w.tells(api.Startup, 1470, 277000)
}

// P15.1 (Z1: step 7), P15.2: Least binds where nothing else would leave as much, the bounds too.
func TestCwndLeast(t *testing.T) {
	w := walks(t, small())
	w.step(lost(100), rate(100), flight(0), acked(1)) // the path holds one byte: seven tenths of that are none
	w.bounds(0, greatest, greatest)
	w.tells(api.Drain, 40, 40)
	w.step(flight(0), rate(0))
	w.tells(api.Down, 40, 75)
	for range 9 {
		w.step(flight(0), rate(0))
		w.has("cwnd", w.Cwnd(), 40)
	}
	c := small()
	c.MSS, c.Init = 65535, 4
	w = walks(t, c)
	w.tells(api.Startup, 262140, 726127800)
	w.step(rate(1))
	w.tells(api.Startup, 263140, 262140)
	w.has("quantum", w.Quantum(), 131070)
}

// P15.1 (Z1: the pace): Least bytes a second at least, MaxRate at most, and one more or less beside both; a state's Pace is rounded down.
func TestPace(t *testing.T) {
	for _, x := range []struct{ rate, startup, refill uint64 }{
		{1, 40, 40},
		{14, 40, 40}, // 38 and 78 hundredths
		{15, 41, 40},
		{39, 108, 40},
		{40, 110, 40},
		{41, 113, 41},
		{1 << 38, 761411802234, 1 << 38},
		{396935605694, 1<<40 - 4, 396935605694},
		{396935605695, 1<<40 - 1, 396935605695},
		{396935605696, 1 << 40, 396935605696}, // one more, and 92 hundredths, were what it asks for
		{1<<40 - 1, 1 << 40, 1<<40 - 1},
		{1 << 40, 1 << 40, 1 << 40},
		{1<<40 + 1, 1 << 40, 1 << 40},
		{1 << 63, 1 << 40, 1 << 40},
		{greatest, 1 << 40, 1 << 40},
	} {
		w := walks(t, small())
		w.step(rate(x.rate))
		w.is(api.Startup)
		w.has("pace", w.Pace(), x.startup)
		for range 3 {
			w.step(rate(x.rate), flight(0), lost(100))
		}
		w.is(api.Cruise)
		w.step(rate(x.rate), flight(0), after(2000000)) // without the short bounds
		w.is(api.Refill)
		w.has("pace", w.Pace(), x.refill)
		w.has("best", w.Engine.Best(), x.rate)
	}
}

// P15.1 (Z1: the pace): it is of the best rate, up to the short bound, by each state's gain.
func TestPaceLimited(t *testing.T) {
	for _, x := range []struct {
		s    api.State
		pace uint64
	}{{api.Drain, 21600}, {api.Down, 45000}, {api.Cruise, 60000}, {api.ProbeRTT, 60000}} {
		w := walks(t, small())
		w.to(x.s)
		w.step(lost(100), rate(60000), flight(1100))
		w.is(x.s)
		w.has("pace", w.Pace(), x.pace)
		w.has("best", w.Engine.Best(), 100000)
	}
	w := walks(t, small())
	w.to(api.Refill)
	w.step(lost(100), rate(60000), flight(1100))
	w.tells(api.Up, 1425, 75000)
}

// P15.1 (Z1: Quantum): the bytes of a thousandth of a second at the pace, from two packets to 64.
func TestQuantum(t *testing.T) {
	for _, x := range []struct{ rate, quantum uint64 }{
		{1, 20}, {7580, 20}, {7582, 21}, {100000, 277}, {230685, 638}, {230686, 639}, {231047, 640}, {240000, 640}, {greatest, 640},
	} {
		w := walks(t, small())
		w.step(rate(x.rate))
		w.has("quantum", w.Quantum(), x.quantum)
	}
}

// P15.1 (Z1: Best): while the cycle filter has nothing, or nought, First by the least round trip in a second, rounded down; without one, 1000.
func TestBest(t *testing.T) {
	for _, x := range []struct{ rtt, best uint64 }{
		{0, greatest}, {1, 100000000}, {2, 50000000}, {3, 33333333}, {7, 14285714}, {1000, 100000}, {100000000, 1}, {100000001, 0}, {greatest, 0},
	} {
		w := walks(t, small())
		w.has("best", w.Engine.Best(), 100000)
		w.step(rate(0), rtt(x.rtt))
		w.has("best", w.Engine.Best(), x.best)
		w.step(rate(0), rtt(greatest), limited)
		w.has("best", w.Engine.Best(), x.best)
		w.step(rate(1), rtt(greatest))
		w.has("best", w.Engine.Best(), 1)
	}
}

// P15.1 (Z1): each way that leads from a state to another one, with cwnd, and the pace, behind it.
func TestWays(t *testing.T) {
	for _, x := range []struct {
		from, to   api.State
		change     func(*bbr.Event)
		cwnd, pace uint64
	}{
		{0, 1, lost(100), 1000, 36000},
		{0, 6, func(x *bbr.Event) { x.Now += 4990001; x.Sample.RTT, x.Acked = 20000, 5 }, 500, 100000},
		{1, 2, flight(1000), 2075, 75000},
		{1, 6, func(x *bbr.Event) { x.Now += 4990001; x.Sample.RTT = 20000 }, 500, 100000},
		{2, 3, flight(1000), 2100, 100000},
		{2, 4, func(x *bbr.Event) { x.Now += 1990000; x.InFlight = 1001 }, 2100, 100000},
		{2, 6, func(x *bbr.Event) { x.Now += 4990001; x.Sample.RTT = 20000 }, 500, 100000},
		{3, 4, after(2000000), 2100, 100000},
		{3, 6, func(x *bbr.Event) { x.Now += 4990001; x.Sample.RTT = 20000 }, 500, 100000},
		{4, 5, flight(1000), 2375, 125000},
		{4, 6, func(x *bbr.Event) { x.Now += 4990001; x.Sample.RTT = 20000 }, 500, 100000},
		{5, 2, flight(1250), 2075, 75000},
		{5, 2, func(x *bbr.Event) { x.Lost = 100; x.InFlight = 2000 }, 1700, 75000},
		{5, 6, func(x *bbr.Event) { x.Now += 4990001; x.Sample.RTT = 20000 }, 500, 100000},
		{6, 0, func(x *bbr.Event) { x.Now += 190000; x.Sample.RTT, x.Acked = 20000, 7 }, 1107, 277000},
		{6, 3, func(x *bbr.Event) { x.Now += 190000; x.Sample.RTT, x.Acked = 20000, 7 }, 1107, 100000},
	} {
		w := walks(t, small())
		switch {
		case x.from == api.Startup:
			w.step()
		case x.from == api.ProbeRTT && x.to == api.Cruise:
			w.to(x.from)
			for range 2 {
				w.step(after(1), rtt(20000))
			}
		default:
			w.to(x.from)
		}
		w.is(x.from)
		w.step(x.change)
		w.tells(x.to, x.cwnd, x.pace)
	}
}
