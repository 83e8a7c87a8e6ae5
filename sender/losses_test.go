package sender_test

import (
	"testing"

	"goit/api"
	"goit/bbr"
)

// flown is a sender whose packets 0 to 9 went at 1000, with so many bytes that wait behind them.
func flown(t *testing.T, c api.Conf, waiting uint64) *pair {
	t.Helper()
	p := newPair(t, c)
	p.does(t, write(15000+waiting), tick(1000))
	p.stands(t, waiting, 15000)
	return p
}

// sampled is the sample of packets that went at 1000, all of them in one flight, and are the first to be acknowledged.
func sampled(now, bytes uint64, limited bool) api.Sample {
	return api.Sample{Delivered: bytes, Interval: now - 1000, Rate: bytes * 1000000 / (now - 1000), RTT: now - 1000, Limited: limited}
}

// P17.1 (Words: losses): none, as long as nothing is too old, or overtaken; then the engine is told nothing.
func TestLostNone(t *testing.T) {
	p := flown(t, setup(), 0)
	p.ticks(t, 1000)
	p.ticks(t, 500000)
	p.ticks(t, 1000999)
	p.stands(t, 0, 15000)
	p.knows(t)

	// though it would turn to ProbeRTT, if it was told
	p = flown(t, setup(), 0)
	p.does(t, ack(51000, to(0, 9)))
	first := bbr.Event{Now: 51000, Sample: sampled(51000, 15000, false), Some: true, Delivered: 15000, Acked: 15000}
	p.knows(t, first)
	p.does(t, tick(6000000), tick(api.Horizon))
	p.knows(t, first)
	if s := p.Engine().State(); s != api.Startup {
		t.Errorf("state %d", s)
	}
}

// P17.1 (Words: losses; S1: Tick): by time; the bytes wait again, and the engine is told, once, without a sample.
func TestLostByTime(t *testing.T) {
	p := newPair(t, setup())
	p.does(t, write(4100), tick(37), tick(73), tick(2000))
	p.stands(t, 0, 4100)
	p.ticks(t, 1000036)
	p.ticks(t, 1000037, packet(3, api.Stamp{Sent: 1000037, First: 37, At: 37, Limited: true})) // packet 0 again
	p.stands(t, 0, 4100)
	first := bbr.Event{Now: 1000037, Lost: 1500, InFlight: 2600}
	p.knows(t, first)
	p.ticks(t, 1000072)
	p.knows(t, first)
	p.ticks(t, 1001999, packet(4, api.Stamp{Sent: 1001999, First: 37, At: 37, Limited: true}))
	p.ticks(t, 1002000, api.Packet{N: 5, Size: 1100, Stamp: api.Stamp{Sent: 1002000, First: 37, At: 37, Limited: true}})
	p.knows(t, first, bbr.Event{Now: 1001999, Lost: 1500, InFlight: 2600}, bbr.Event{Now: 1002000, Lost: 1100, InFlight: 3000})
	// something was out each time: the estimate is as it was
	p.ticks(t, 2000036)
	p.ticks(t, 2000037, packet(6, api.Stamp{Sent: 2000037, First: 37, At: 37, Limited: true}))
}

// P17.1 (Words: losses): sizes are those of the packets, which wait as bytes: they go as other packets.
func TestLostBytes(t *testing.T) {
	p := newPair(t, setup())
	p.does(t, write(100), tick(1000), write(100), tick(1000), write(100), tick(1000), write(1300))
	p.stands(t, 1300, 300)
	p.does(t, tick(1000))
	p.stands(t, 0, 1600)
	stamp := api.Stamp{Sent: 1001000, First: 1001000, At: 1001000, Limited: true}
	p.ticks(t, 1001000, packet(4, stamp), api.Packet{N: 5, Size: 100, Stamp: stamp})
	p.knows(t, bbr.Event{Now: 1001000, Lost: 1600})
}

// P17.1 (Words: losses): all that is out, which doubles the estimate, 6 times at most.
func TestLostAll(t *testing.T) {
	p := flown(t, setup(), 0)
	now, limit := uint64(1000), uint64(1000000)
	var events []bbr.Event
	for i := range uint64(9) {
		p.ticks(t, now+limit-1)
		now += limit
		p.ticks(t, now, packets(10*(i+1), 10, api.Stamp{Sent: now, First: now, At: now, Limited: true})...)
		events = append(events, bbr.Event{Now: now, Lost: 15000})
		p.knows(t, events...)
		limit = min(2*limit, 64000000)
	}
	// a round trip ends that: its limit is thrice the round trip
	p.does(t, ack(now+50000, one(90)))
	p.ticks(t, now+149999)
	p.stands(t, 0, 13500)
	again := api.Stamp{Sent: now + 150000, First: now + 150000, Delivered: 1500, At: now + 150000, Limited: true}
	p.ticks(t, now+150000, packets(100, 2, again)...) // the quantum is 3000 now
	p.stands(t, 10500, 3000)
}

// P17.1 (Words: losses; S2): by the ledger's reorder, in an acknowledgement.
func TestLostByReorder(t *testing.T) {
	p := flown(t, setup(), 0)
	p.does(t, ack(51000, to(1, 2)))
	p.stands(t, 0, 12000)
	p.does(t, ack(51000, one(3))) // packet 0 is overtaken by three
	p.stands(t, 1500, 9000)
	first := bbr.Event{Now: 51000, Sample: sampled(51000, 3000, false), Some: true, Delivered: 3000, Acked: 3000, InFlight: 12000}
	second := bbr.Event{Now: 51000, Sample: sampled(51000, 4500, false), Some: true, Delivered: 4500, Acked: 1500, Lost: 1500, InFlight: 9000}
	p.knows(t, first, second)

	for _, c := range []struct{ reorder, lost uint64 }{{1, 7}, {2, 6}, {7, 1}, {8, 0}, {100, 0}} {
		p = flown(t, with(func(x *api.Conf) { x.Reorder = c.reorder }), 0)
		p.does(t, ack(51000, one(7)))
		p.stands(t, 1500*c.lost, 13500-1500*c.lost)
		p.knows(t, bbr.Event{Now: 51000, Sample: sampled(51000, 1500, false), Some: true, Delivered: 1500, Acked: 1500, Lost: 1500 * c.lost, InFlight: 13500 - 1500*c.lost})
	}
}

// P17.1 (Words: losses; S2): by time in an acknowledgement, by the estimate as it is with the new round trip.
func TestLostByDelay(t *testing.T) {
	// a round trip of 51000, and 57375 as the delay: what went at 1000 is not lost yet, what went at 37 neither
	p := newPair(t, setup())
	p.does(t, write(30000), tick(37), tick(1000))
	p.does(t, ack(52000, one(2)))
	p.stands(t, 15000, 13500)
	p.does(t, tick(57411)) // of packets 0 and 1 one is lost a microsecond later, one at 58375
	if l := p.plain.lost; l != [3]int{} {
		t.Fatalf("lost: %v", l)
	}
	p.does(t, tick(57412), tick(58374))
	if l := p.plain.lost; l != [3]int{0, 1, 0} {
		t.Fatalf("lost: %v", l)
	}
	p.does(t, tick(58375))
	if l := p.plain.lost; l != [3]int{0, 2, 0} {
		t.Fatalf("lost: %v", l)
	}

	// in the acknowledgement itself: a round trip of 100, and a delay of 1000
	for _, c := range []struct{ sent, lost uint64 }{{4100, 1500}, {4101, 0}} {
		p = newPair(t, setup())
		p.does(t, write(1500), tick(c.sent), write(3000), tick(5000))
		p.stands(t, 0, 4500)
		p.does(t, ack(5100, one(2)))
		p.stands(t, c.lost, 3000-c.lost)
		sample := api.Sample{Delivered: 1500, Interval: 5100 - c.sent, Rate: 1500000000 / (5100 - c.sent), RTT: 100, Limited: true}
		p.knows(t, bbr.Event{Now: 5100, Sample: sample, Some: true, Delivered: 1500, Acked: 1500, Lost: c.lost, InFlight: 3000 - c.lost})
	}
}

// P17.1 (Words: losses; S2): all that is out, in an acknowledgement: the round trip is in the estimate ahead of that, and does not undo the doubling.
func TestLostAllAcked(t *testing.T) {
	p := flown(t, with(func(c *api.Conf) { c.Reorder = 1 }), 0)
	p.does(t, ack(51000, one(9)))
	p.stands(t, 13500, 0)
	p.knows(t, bbr.Event{Now: 51000, Sample: sampled(51000, 1500, false), Some: true, Delivered: 1500, Acked: 1500, Lost: 13500})
	stamp := api.Stamp{Sent: 51000, First: 51000, Delivered: 1500, At: 51000, Limited: true}
	p.ticks(t, 51000, packets(10, 2, stamp)...)
	p.stands(t, 10500, 3000)
}

// P17.1 (Words: losses): the doubled limit counts from then on, and for packets behind it alone; a loss that leaves something out does not double.
func TestDoubled(t *testing.T) {
	p := flown(t, with(func(c *api.Conf) { c.Reorder = 1 }), 0)
	p.does(t, ack(51000, one(9))) // limit: 150000, doubled
	p.stands(t, 13500, 0)
	p.does(t, tick(51000))
	p.stands(t, 10500, 3000)
	if p.plain.doubled != 1 {
		t.Fatalf("doubled %d times", p.plain.doubled)
	}
	p.does(t, tick(350999))
	if l := p.plain.lost; l[2] != 0 {
		t.Fatalf("lost: %v", l)
	}
	p.does(t, tick(351000)) // what went at 350999 is out
	if l := p.plain.lost; l[2] != 2 || p.plain.doubled != 1 {
		t.Fatalf("lost: %v, doubled %d times", l, p.plain.doubled)
	}
}

// P17.1 (S1: Tick): the pacer ticks behind the engine, by its pace, and quantum then.
func TestPacedBehindLoss(t *testing.T) {
	p := flown(t, setup(), 60000)
	p.does(t, ack(51000, to(0, 9))) // a round trip of 50000, a limit of 150000; the best rate is 300000
	p.does(t, tick(6000000))        // in Startup, with a quantum of 3000, and without credit behind it
	p.stands(t, 57000, 3000)
	p.will(t, 6001806) // 1500 bytes at 831000
	p.does(t, tick(6149999))
	p.stands(t, 54000, 6000)
	p.will(t, 6151805)
	p.does(t, tick(6150000)) // the loss: in ProbeRTT, at 300000
	p.stands(t, 57000, 3000)
	if s, pace := p.Engine().State(), p.Engine().Pace(); s != api.ProbeRTT || pace != 300000 {
		t.Fatalf("state %d, pace %d", s, pace)
	}
	p.will(t, 6154999) // 300000 millionths are there
	p.ticks(t, 6154998)
	p.ticks(t, 6154999, packet(14, api.Stamp{Sent: 6154999, First: 6000000, Delivered: 15000, At: 6000000}))
}

// P17.1 (S1: Tick), P17.2: by its quantum then: a loss may lower it, and what the credit was above it is gone.
func TestQuantumBehindLoss(t *testing.T) {
	p := newPair(t, with(func(c *api.Conf) { c.Init = 134 }))
	p.does(t, write(900000), tick(1000), tick(1200), tick(1400), ack(11400, to(0, 133)))
	p.does(t, tick(6000000)) // in Startup, with a quantum of 53535: 35 packets
	p.stands(t, 900000-201000-52500, 52500)
	if q := p.Engine().Quantum(); q != 53535 {
		t.Errorf("quantum %d", q)
	}
	p.does(t, tick(6030000)) // in ProbeRTT, with one of 19326: 12 packets
	p.stands(t, 900000-201000-18000, 18000)
	if q := p.Engine().Quantum(); q != 19326 {
		t.Errorf("quantum %d", q)
	}
}
