package sender_test

import (
	"testing"

	"goit/api"
	"goit/conf"
)

// mixer gives numbers in an order that shows no rule.
type mixer uint64

func (m *mixer) turn() uint64 {
	*m = *m*6364136223846793005 + 1442695040888963407
	return uint64(*m)
}

// below is a number below another one.
func (m *mixer) below(n uint64) uint64 { return m.turn() >> 20 % n }

// number is one of any length, up to most.
func (m *mixer) number(most uint64) uint64 { return m.turn() >> m.below(64) % (most + 1) }

// pick is one of numbers.
func (m *mixer) pick(l ...uint64) uint64 { return l[m.below(uint64(len(l)))] }

// scale is a setup, how long times between calls are at most, how much is written at once, and how long a round trip of the packets takes, about.
type scale struct {
	setup               api.Conf
	length, bytes, trip uint64
}

func scales() []scale {
	d := conf.Default()
	small := api.Conf{MSS: 1, Init: 4, Reorder: 1, Window: 1, ProbeLen: 1, Loss: 0}
	great := api.Conf{MSS: 65535, Init: 1000, Reorder: 100, Window: 1 << 40, ProbeLen: 1 << 40, Loss: 1000}
	return []scale{
		{d, 1000, 3000, 50000},
		{d, 100000, 30000, 50000},
		{d, 3000000, 1 << 40, 700},
		{with(func(c *api.Conf) { c.Init, c.Reorder, c.Loss = 4, 1, 300 }), 20000, 1 << 20, 30000},
		{with(func(c *api.Conf) { c.Window, c.ProbeLen, c.Loss = 1000000, 20000, 1000 }), 30000, 1 << 30, 40000},
		{with(func(c *api.Conf) { c.MSS, c.Init, c.Reorder, c.Window = 10, 40, 100, 300000 }), 3000, 5000, 9000},
		{with(func(c *api.Conf) { c.MSS, c.Window, c.Loss = 2, 1<<40, 999 }), 100, 50, 300},
		{small, 3, 10, 5},
		{small, 1 << 30, 1000, 1 << 20},
		{with(func(c *api.Conf) { c.MSS, c.Init, c.Reorder = 1, 1000, 40 }), 1000, 3000, 100000},
		{great, 100000, 1 << 50, 1000},
		{great, 1 << 32, 1 << 56, 1 << 33},
	}
}

// later is a time that is so much later at most, or the horizon.
func (m *mixer) later(p *plain, length uint64) uint64 {
	return min(p.time+m.number(length), api.Horizon)
}

// edge is a time at which something comes to be, or a microsecond beside it: the next packet may go, one is lost.
func (m *mixer) edge(p *plain) uint64 {
	at := p.time
	switch n := p.next(); m.below(3) {
	case 0:
		if n.ok {
			at = n.at
		}
	case 1:
		if len(p.out) > 0 {
			at = p.out[0].Stamp.Sent + p.estimate.Limit()
		}
	default:
		if len(p.out) > 0 {
			at = p.out[m.below(uint64(len(p.out)))].Stamp.Sent + p.estimate.Delay()
		}
	}
	at += m.pick(0, 0, 1, 2) - 1
	if at < p.time || at > api.Horizon {
		return p.time
	}
	return at
}

// ranges are some of packets that are out, or near those that are.
func (m *mixer) ranges(p *plain) (l []api.Range) {
	if len(p.out) == 0 || m.below(30) == 0 {
		return []api.Range{one(m.number(p.number + 3)), to(p.number, p.number+m.number(9))}[:m.below(3)]
	}
	first := p.out[0].N
	switch m.below(8) {
	case 0: // all
		return []api.Range{to(first/2, greatest-1)}
	case 1, 2, 3: // the first ones
		return []api.Range{to(first, p.out[m.below(uint64(len(p.out)))].N)}
	case 4: // the first one
		return []api.Range{one(first)}
	}
	for range 1 + m.below(4) {
		x := p.out[m.below(uint64(len(p.out)))].N
		l = append(l, to(x, x+m.number(3)))
	}
	return l
}

// call is one of some scale, behind calls that made a plain sender.
func (m *mixer) call(p *plain, s scale) call {
	switch m.below(20) {
	case 0, 1:
		return write(m.number(min(s.bytes, (api.MaxBytes-p.bytes)/2)))
	case 2:
		return tick(p.time - min(m.number(9), p.time))
	case 3:
		return ack(p.time-min(m.number(5), p.time), append(m.ranges(p), one(m.pick(p.number, greatest)))...)
	case 4:
		return ack(m.later(p, s.length), to(m.number(9), m.number(9)))
	case 5, 6, 7, 8:
		return tick(m.edge(p))
	case 9:
		return ack(m.edge(p), m.ranges(p)...)
	case 10, 11, 12, 13, 14: // about a round trip behind the first one that is out
		at := p.time
		if len(p.out) > 0 {
			at = min(max(at, p.out[0].Stamp.Sent+s.trip+m.number(s.trip/4+1)), api.Horizon)
		}
		return ack(at, m.ranges(p)...)
	case 15:
		return tick(p.time)
	}
	return tick(m.later(p, s.length))
}

// P17.1 to P17.4: mixed calls of all scales; all states are reached, packets are lost in each way, and what went doubles the estimate.
func TestMixed(t *testing.T) {
	states := map[api.State]int{}
	var lost [3]int
	var doubled, stood int
	for i, s := range scales() {
		for round := range uint64(4) {
			m := mixer(100*uint64(i) + round)
			p := newPair(t, s.setup)
			for n := range 1500 {
				p.do(t, m.call(p.plain, s))
				states[p.Engine().State()]++
				if n%50 < 2 {
					p.goes(t)
				}
				if p.ticked && p.Waiting() > 0 && p.InFlight() == 0 {
					stood++
					if at, _ := p.Next(); at <= api.Horizon && len(p.do(t, tick(at)).gone) == 0 {
						t.Fatalf("%v, behind %v: nothing goes at %d", s.setup, p.last(), at)
					}
				}
			}
			for i, n := range p.plain.lost {
				lost[i] += n
			}
			doubled += p.plain.doubled
			p.ends(t)
		}
	}
	if len(states) != int(api.ProbeRTT)+1 || min(lost[0], lost[1], lost[2], doubled, stood) < 100 {
		t.Errorf("states %v, lost %v, doubled %d, stood %d", states, lost, doubled, stood)
	}
}

// ends lets a sender be past the horizon, by one of three calls: behind that every call has its error, and nothing is changed.
func (p *pair) ends(t *testing.T) {
	t.Helper()
	switch len(p.plain.events) % 3 {
	case 0:
		p.fails(t, write(api.MaxBytes-p.plain.bytes+1), api.ErrHorizon)
	case 1:
		p.fails(t, tick(api.Horizon+1), api.ErrHorizon)
	default:
		p.fails(t, ack(api.Horizon+1, to(0, greatest-1)), api.ErrHorizon)
	}
	for _, c := range []call{write(0), tick(p.plain.time), tick(api.Horizon), ack(p.plain.time, to(0, greatest-1)), ack(0, to(1, 0)), tick(0)} {
		p.fails(t, c, api.ErrHorizon)
	}
}

// moves are calls behind a plain sender, of few packets.
func moves() []func(p *plain) call {
	first := func(p *plain) uint64 {
		if len(p.out) == 0 {
			return p.number
		}
		return p.out[0].N
	}
	return []func(p *plain) call{
		func(p *plain) call { return write(p.setup.MSS + 1) },
		func(p *plain) call { return write(9 * p.setup.MSS) },
		func(p *plain) call { return tick(p.time) },
		func(p *plain) call { return tick(max(p.time, p.next().at)) },
		func(p *plain) call { return tick(p.time + 3000) },
		func(p *plain) call { return tick(p.time + p.estimate.Limit()) },
		func(p *plain) call { return ack(p.time+2000, one(first(p))) },
		func(p *plain) call { return ack(p.time+900, one(first(p)+2)) },
		func(p *plain) call { return ack(p.time+50000, to(first(p)+1, p.number+5)) },
		func(p *plain) call { return ack(p.time+6000000, to(0, greatest-1)) },
	}
}

// P17.1 to P17.4: all rows of five of ten moves, on three setups.
func TestRows(t *testing.T) {
	for _, c := range []api.Conf{
		setup(),
		with(func(c *api.Conf) { c.MSS, c.Init, c.Reorder = 100, 4, 1 }),
		with(func(c *api.Conf) { c.Init, c.Window, c.Loss = 5, 10000, 0 }),
	} {
		l := moves()
		for row := range 100000 {
			p := newPair(t, c)
			for range 5 {
				p.do(t, l[row%10](p.plain))
				row /= 10
			}
			p.goes(t)
		}
	}
}
