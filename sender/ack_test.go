package sender_test

import (
	"slices"
	"testing"

	"goit/api"
	"goit/bbr"
)

// P17.1 (S2): the order of its errors; each changes nothing, but that a time past the horizon ends it.
func TestAckErrors(t *testing.T) {
	for _, wrong := range []api.Range{to(1, 0), to(9, 8), to(greatest, 0), to(0, greatest), one(greatest), to(greatest, greatest-1)} {
		p := flown(t, setup(), 0)
		p.does(t, ack(2000))
		p.fails(t, ack(2000, wrong), api.ErrArg)
		p.fails(t, ack(3000, wrong), api.ErrArg)
		p.fails(t, ack(3000, one(0), wrong), api.ErrArg)
		p.fails(t, ack(3000, wrong, to(0, 9)), api.ErrArg)
		p.fails(t, ack(api.Horizon, wrong), api.ErrArg)
		p.fails(t, ack(api.Horizon+1, wrong), api.ErrArg) // ahead of the clock's error: it is not past
		p.fails(t, ack(greatest, one(0), wrong), api.ErrArg)
		p.fails(t, ack(1999, wrong), api.ErrRange) // ahead of the ranges
		p.fails(t, ack(1999, one(0)), api.ErrRange)
		p.fails(t, ack(0), api.ErrRange)
		if p.Time() != 2000 || p.Past() {
			t.Fatalf("at %d, past: %v", p.Time(), p.Past())
		}
		p.stands(t, 0, 15000)
		p.knows(t)
		p.fails(t, ack(api.Horizon+1, to(0, 9)), api.ErrHorizon)
		if p.Time() != 2000 || !p.Past() {
			t.Fatalf("at %d, past: %v", p.Time(), p.Past())
		}
		p.stands(t, 0, 15000)
		p.knows(t)
		for _, c := range []call{ack(2000, wrong), ack(1999, wrong), ack(1999), ack(2000, one(0)), ack(greatest), ack(3000), tick(2000), write(0)} {
			p.fails(t, c, api.ErrHorizon)
		}
		p.stands(t, 0, 15000)
	}
	// without ranges, and of packets that are not out, the clock's error comes too
	for _, l := range [][]api.Range{nil, {one(99)}, {to(0, greatest-1)}} {
		p := flown(t, setup(), 0)
		p.fails(t, ack(greatest, l...), api.ErrHorizon)
		p.stands(t, 0, 15000)
	}
}

// P17.1 (S2): nothing else, if no packet is acknowledged, though time goes on: nothing is lost, and the engine is told nothing.
func TestAckNone(t *testing.T) {
	p := flown(t, setup(), 3000)
	p.does(t, ack(51000, to(3, 4))) // packets 0 and 1 are lost, a delay is 56250
	p.stands(t, 6000, 9000)
	n := len(p.plain.events)
	for i, l := range [][]api.Range{nil, {one(3)}, {to(3, 4)}, {one(0)}, {to(0, 1), to(3, 4)}, {one(10)}, {to(10, greatest-1)}, {one(greatest - 1)}, {one(10), one(0), to(100, 200)}} {
		now := 300000 + uint64(i) // limit and delay are over for all
		p.does(t, ack(now, l...))
		p.stands(t, 6000, 9000)
		if p.Time() != now || len(p.plain.events) != n {
			t.Fatalf("at %d, told %v", p.Time(), p.plain.events)
		}
	}
	p.fails(t, tick(299999), api.ErrRange)
	p.does(t, tick(300008))
	if l := p.plain.lost; l != [3]int{2, 1, 5} { // packet 2 is overtaken, the others are just too old
		t.Errorf("lost: %v", l)
	}
}

// P17.1 (S2): ranges of one, of several, in any order, twice, and beside packets that are not out.
func TestAckRanges(t *testing.T) {
	for _, c := range []struct {
		l     []api.Range
		acked uint64
	}{
		{[]api.Range{one(0)}, 1},
		{[]api.Range{one(0), one(0)}, 1},
		{[]api.Range{to(0, 2)}, 3},
		{[]api.Range{to(0, 9)}, 10},
		{[]api.Range{to(0, greatest-1)}, 10},
		{[]api.Range{to(8, 70), one(6), to(7, 8)}, 4},
		{[]api.Range{one(4), one(2), one(0)}, 3},
		{[]api.Range{to(2, 5), to(0, 3), one(99)}, 6},
		{[]api.Range{one(1), one(3), one(5), one(7), one(9), one(11)}, 5},
	} {
		p := flown(t, with(func(c *api.Conf) { c.Reorder = 100 }), 100)
		p.does(t, ack(51000, c.l...))
		p.stands(t, 100, 15000-1500*c.acked)
		p.knows(t, bbr.Event{Now: 51000, Sample: sampled(51000, 1500*c.acked, false), Some: true, Delivered: 1500 * c.acked, Acked: 1500 * c.acked, InFlight: 15000 - 1500*c.acked})
		p.does(t, ack(51001, c.l...))
		p.stands(t, 100, 15000-1500*c.acked)
	}
}

// P17.1 (S2): packets that were lost, and go again, are others: a late acknowledgement of the first ones is none.
func TestAckLost(t *testing.T) {
	p := newPair(t, setup())
	p.does(t, write(3000), tick(1000), tick(1001000))
	p.does(t, ack(1002000, to(0, 1)))
	p.stands(t, 0, 3000)
	p.does(t, ack(1003000, to(0, 2)))
	p.stands(t, 0, 1500)
	lost := bbr.Event{Now: 1001000, Lost: 3000}
	sample := api.Sample{Delivered: 1500, Interval: 2000, Rate: 750000, RTT: 2000, Limited: true}
	p.knows(t, lost, bbr.Event{Now: 1003000, Sample: sample, Some: true, Delivered: 1500, Acked: 1500, InFlight: 1500})
}

// P17.1 (S2): what the engine is told: the sample's bytes, what was delivered in all, and what was acknowledged at once, are three numbers.
func TestAckEvents(t *testing.T) {
	p := newPair(t, setup())
	p.does(t, write(60000), tick(1000))
	p.does(t, ack(51000, to(0, 2)))
	first := bbr.Event{Now: 51000, Sample: sampled(51000, 4500, false), Some: true, Delivered: 4500, Acked: 4500, InFlight: 10500}
	p.knows(t, first)
	p.does(t, tick(52000)) // two more, as 1000 microseconds earn 3000 bytes at most
	p.stands(t, 42000, 13500)
	p.does(t, ack(53000, one(3)))
	second := bbr.Event{Now: 53000, Sample: api.Sample{Delivered: 6000, Interval: 52000, Rate: 115384, RTT: 52000}, Some: true, Delivered: 6000, Acked: 1500, InFlight: 12000}
	p.knows(t, first, second)
	p.does(t, ack(104000, to(10, 11)))
	p.stands(t, 51000, 0) // packets 4 to 8 are lost by the reorder, and 9 by the limit
	third := bbr.Event{Now: 104000, Sample: api.Sample{Delivered: 4500, Interval: 53000, Rate: 84905, RTT: 52000}, Some: true, Delivered: 9000, Acked: 3000, Lost: 9000}
	p.knows(t, first, second, third)
}

// P17.1 (S2): the last acknowledgement's time, not the packets', is that of the sample; time goes on behind it.
func TestAckTime(t *testing.T) {
	p := flown(t, setup(), 0)
	p.does(t, ack(1000, one(0))) // a round trip of 0, and no interval
	p.knows(t, bbr.Event{Now: 1000, Sample: api.Sample{Delivered: 1500}, Some: true, Delivered: 1500, Acked: 1500, InFlight: 13500})
	p.does(t, ack(api.Horizon, to(1, 9)))
	p.stands(t, 0, 0)
	p.does(t, tick(api.Horizon))
	p.fails(t, tick(api.Horizon-1), api.ErrRange)
	p.fails(t, ack(api.Horizon-1), api.ErrRange)
	p.does(t, ack(api.Horizon))
}

// DOC.md, rule 4: ranges are neither written into, nor kept, and what lies behind their length is not looked at; what went is new memory.
func TestMemory(t *testing.T) {
	p := flown(t, setup(), 0)
	all := []api.Range{to(5, 6), to(0, 2), to(2, 3), to(9, 0), one(8)}
	kept := slices.Clone(all)
	p.does(t, ack(51000, all[:3]...))
	if !slices.Equal(all, kept) {
		t.Errorf("%v, not %v", all, kept)
	}
	clear(all)
	p.stands(t, 0, 6000)
	p.does(t, ack(51001, one(7)))
	p.stands(t, 1500, 3000)

	p = newPair(t, setup())
	p.does(t, write(30000))
	l, _ := p.Tick(1000)
	m := p.plain.do(tick(1000)).gone
	p.calls = append(p.calls, tick(1000))
	clear(l)
	l = append(l, m...)
	p.does(t, tick(1000))
	p.does(t, ack(51000, to(0, 9)))
	l, _ = p.Tick(60000)
	m = p.plain.do(tick(60000)).gone
	if !slices.Equal(l, m) {
		t.Errorf("%v, not %v", l, m)
	}
}
