package bbr_test

import (
	"testing"

	"goit/api"
	"goit/bbr"
	"goit/bound"
	"goit/conf"
	"goit/mode"
)

// numbers are a row of numbers that look mixed, the same ones each time.
type numbers uint64

func (n *numbers) next() uint64 {
	*n = *n*6364136223846793005 + 1442695040888963407
	x := uint64(*n)
	return x ^ x>>29
}

// below is a number below another one.
func (n *numbers) below(x uint64) uint64 { return n.next() % x }

// one is as often so as one in a number.
func (n *numbers) one(in uint64) bool { return n.below(in) == 0 }

// any is a number of any size, most of the ends and of powers among them.
func (n *numbers) any() uint64 {
	switch n.below(8) {
	case 0:
		return n.below(3)
	case 1:
		return greatest - n.below(3)
	case 2:
		return 1<<n.below(64) - n.below(2)
	case 3:
		return n.below(3000)
	case 4:
		return n.below(3000000)
	}
	return n.next() >> n.below(64)
}

// setup is one that may be.
func (n *numbers) setup() api.Conf {
	pick := func(l ...uint64) uint64 { return l[n.below(uint64(len(l)))] }
	return api.Conf{
		MSS:      pick(1, 2, 10, 1500, 65535, 1+n.below(65535)),
		Init:     pick(4, 5, 10, 1000, 4+n.below(997)),
		Reorder:  1 + n.below(100),
		Window:   pick(1, 2, 3, 1000, 99999, 1000000, 10000000, 10000001, 1<<40, 1+n.below(1<<40)),
		ProbeLen: pick(1, 2, 1000, 200000, 3000000, 1<<40, 1+n.below(1<<40)),
		Loss:     pick(0, 1, 20, 20, 100, 500, 999, 1000, n.below(1001)),
	}
}

// path is one that brings events: with a rate, and a round trip, which change now and then.
type path struct {
	numbers
	now, delivered, rate, rtt, losses uint64
	much, little                      bool // in flight; to send
}

// change changes the path, now and then.
func (p *path) change() {
	if p.one(40) {
		p.rate = 1 + p.below(1<<(10+p.below(20)))
	}
	if p.one(20) {
		p.rtt = 1 + p.below(1<<(5+p.below(15)))
	}
	if p.one(25) {
		p.losses = p.below(6)
	}
	if p.one(15) {
		p.much, p.little = p.one(4), p.one(3)
	}
}

// event is what it brings: a round trip's bytes, or some of them.
func (p *path) event(e *bbr.Engine) bbr.Event {
	p.change()
	p.now += p.below(2*p.rtt + 1)
	if p.one(12) {
		p.now += p.below(6000000)
	}
	holds := conf.Flight(e.Best(), e.Least())
	x := bbr.Event{Now: p.now, Delivered: p.delivered, InFlight: p.below(2 + 2*(holds&(1<<40-1)))}
	if p.much {
		x.InFlight += holds
	} else if p.one(3) {
		x.InFlight = min(x.InFlight, e.Limits().Hi*uint64(8+p.below(3))/10)
	}
	if p.losses > 0 && p.one(3) {
		x.Lost = p.below(1 << (4 * p.losses))
	}
	if p.one(6) {
		return x
	}
	bytes := 1 + p.below(1+p.rate*p.rtt%(1<<40)/1000000*2)
	p.delivered += bytes
	x.Delivered, x.Acked, x.Some = p.delivered, bytes, true
	x.Sample = api.Sample{Delivered: bytes, Interval: p.rtt, Rate: p.rate - p.below(1+p.rate/8), RTT: p.rtt + p.below(1+p.rtt/8), Limited: p.little || p.one(5)}
	if p.one(3) {
		x.Sample.Rate, x.Sample.RTT = p.rate, p.rtt
	}
	if p.one(3) {
		x.Sample.Delivered += p.below(2 * bytes)
	}
	if p.one(50) {
		x.Now -= p.below(1000)
	}
	return x
}

// wild is an event that no path could bring: some of its fields are any numbers.
func (p *path) wild(e *bbr.Engine, odds uint64) bbr.Event {
	x := p.event(e)
	for _, f := range []*uint64{
		&x.Now, &x.Sample.Delivered, &x.Sample.Interval, &x.Sample.Rate, &x.Sample.RTT,
		&x.Delivered, &x.Acked, &x.Lost, &x.InFlight,
	} {
		if p.one(odds) {
			*f = p.any()
		}
	}
	return x
}

// seen counts which way states went.
type seen map[[2]api.State]int

// told tells an engine of a setup so many events, and counts the ways.
func told(t *testing.T, seed uint64, c api.Conf, events int, odds uint64, ways seen) {
	t.Helper()
	p := newPair(t, c)
	r := path{numbers: numbers(seed), rate: 100000, rtt: 10000}
	for range events {
		before := p.State()
		x := r.event(p.Engine)
		if odds > 0 {
			x = r.wild(p.Engine, odds)
		}
		p.tell(x)
		if p.Cwnd() > api.MaxBytes || p.Pace() > api.MaxRate {
			t.Fatalf("cwnd %d, pace %d", p.Cwnd(), p.Pace())
		}
		if !mode.Follows(before, p.State()) {
			t.Fatalf("from state %d to %d", before, p.State())
		}
		ways[[2]api.State{before, p.State()}]++
	}
}

// all tells whether each arrow of chapter 14 was gone along, and each state stayed.
func (w seen) all(t *testing.T) {
	t.Helper()
	for from := range api.State(7) {
		for to := range api.State(7) {
			if n := w[[2]api.State{from, to}]; (n >= 5) != mode.Follows(from, to) {
				t.Errorf("from state %d to %d: %d times", from, to, n)
			}
		}
	}
}

// P15.1, P15.2: a path's events, with losses, with setups of all kinds, against the model.
func TestMixedPaths(t *testing.T) {
	ways := seen{}
	n := numbers(15)
	for i := range uint64(400) {
		c := n.setup()
		switch i % 4 {
		case 0:
			c = conf.Default()
		case 1:
			c = small()
		case 2:
			c.Window, c.ProbeLen, c.Loss = 10000000, 200000, 20
		}
		told(t, n.next(), c, 700, 0, ways)
	}
	ways.all(t)
}

// P15.1, P15.2: events that no path could bring, rarely, often, and all the time, against the model.
func TestMixedWild(t *testing.T) {
	ways := seen{}
	n := numbers(16)
	for i := range 600 {
		told(t, n.next(), n.setup(), 300, []uint64{1, 2, 4, 20, 100, 300}[i%6], ways)
	}
	ways.all(t)
}

// ends are numbers at both ends, and around what other limits there are.
var ends = []uint64{0, 1, 2, 999, 1000, 1001, 1 << 40, 1<<40 + 1, 1 << 42, 1 << 56, 1<<56 + 1, 1 << 63, greatest - 1, greatest}

// P15.1, P15.2: each field of an event at its ends, by itself, and any two of them, in each state, and an ordinary event behind it.
func TestEnds(t *testing.T) {
	fields := func(x *bbr.Event) []*uint64 {
		return []*uint64{&x.Now, &x.Sample.Delivered, &x.Sample.Interval, &x.Sample.Rate, &x.Sample.RTT, &x.Delivered, &x.Acked, &x.Lost, &x.InFlight}
	}
	for s := range api.State(7) {
		for i := range 9 {
			for j := range i + 1 {
				for _, a := range ends {
					for _, b := range ends {
						w := walks(t, small())
						w.to(s)
						x := w.next()
						*fields(&x)[i] = a
						*fields(&x)[j] = b
						w.tell(x)
						w.tell(w.next())
						x.Some = false
						w.tell(x)
					}
				}
			}
		}
	}
}

// P15.1: a sample's Interval is looked at by no step.
func TestInterval(t *testing.T) {
	n := numbers(17)
	r := path{numbers: numbers(18), rate: 100000, rtt: 10000}
	e, _ := bbr.New(small())
	other, _ := bbr.New(small())
	for range 5000 {
		x := r.event(e)
		e.On(x)
		x.Sample.Interval = n.any()
		other.On(x)
		if asked(e) != asked(other) {
			t.Fatalf("%+v, not %+v", asked(other), asked(e))
		}
	}
}

// P1, Z1: on a nil engine nothing, Startup, 0.
func TestNil(t *testing.T) {
	var e *bbr.Engine
	e.On(bbr.Event{})
	e.On(bbr.Event{Now: greatest, Some: true, Acked: greatest})
	if asked(e) != (answers{}) {
		t.Errorf("a nil engine: %+v", asked(e))
	}
	if e.Limits() != (bound.Bounds{}) || e.State() != api.Startup {
		t.Errorf("a nil engine: %v, %d", e.Limits(), e.State())
	}
}

// P2: the same events, the same answers; asking alters none; an engine alters no other one's, and its setup and its bounds are its own.
func TestSame(t *testing.T) {
	n := numbers(19)
	for range 40 {
		c := n.setup()
		r := path{numbers: numbers(n.next()), rate: 100000, rtt: 10000}
		one, _ := bbr.New(c)
		two, _ := bbr.New(c)
		other, _ := bbr.New(c)
		for range 300 {
			x := r.wild(one, 20)
			one.On(x)
			asked(one)
			b := one.Limits()
			b.Hi, b.Lo, b.Bw = n.any(), n.any(), n.any()
			if asked(one) != asked(one) {
				t.Fatalf("asked twice: %+v", asked(one))
			}
			other.On(r.wild(two, 2))
			two.On(x)
			if asked(one) != asked(two) {
				t.Fatalf("behind %+v: %+v, and %+v", x, asked(one), asked(two))
			}
		}
	}
}
