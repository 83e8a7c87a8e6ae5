package sender_test

import (
	"slices"
	"testing"

	"goit/api"
	"goit/bbr"
	"goit/conf"
	"goit/sender"
)

// setup is the one of most tests: at first 15000 bytes may be in flight, the pace is 41550000, and the quantum 41550.
func setup() api.Conf { return conf.Default() }

// with is that one, changed.
func with(f func(c *api.Conf)) api.Conf {
	c := setup()
	f(&c)
	return c
}

// does makes calls, none of which answers an error.
func (p *pair) does(t *testing.T, l ...call) {
	t.Helper()
	for _, c := range l {
		if a := p.do(t, c); a.errno != api.OK {
			t.Fatalf("%v: error %d", c, a.errno)
		}
	}
}

// fails makes a call that answers an error.
func (p *pair) fails(t *testing.T, c call, e api.Errno) {
	t.Helper()
	if a := p.do(t, c); a.errno != e || len(a.gone) > 0 {
		t.Fatalf("%v: %v, not error %d", c, a, e)
	}
}

// ticks makes a tick, in which just these packets go.
func (p *pair) ticks(t *testing.T, now uint64, want ...api.Packet) {
	t.Helper()
	if a := p.do(t, tick(now)); a.errno != api.OK || !slices.Equal(a.gone, want) {
		t.Fatalf("tick at %d: %v, not %v", now, a, want)
	}
}

// stands holds what waits, and what is in flight.
func (p *pair) stands(t *testing.T, waiting, flight uint64) {
	t.Helper()
	if p.Waiting() != waiting || p.InFlight() != flight {
		t.Fatalf("behind %v: %d waiting, %d in flight, not %d, %d", p.last(), p.Waiting(), p.InFlight(), waiting, flight)
	}
}

// will holds what Next tells against a time.
func (p *pair) will(t *testing.T, at uint64) {
	t.Helper()
	if got, ok := p.Next(); got != at || !ok {
		t.Fatalf("behind %v: Next: %d %v, not %d", p.last(), got, ok, at)
	}
}

// never holds what Next tells against nothing.
func (p *pair) never(t *testing.T) {
	t.Helper()
	if got, ok := p.Next(); got != 0 || ok {
		t.Fatalf("behind %v: Next: %d %v, not 0, false", p.last(), got, ok)
	}
}

// knows holds what the engine tells against another one, that is told events.
func (p *pair) knows(t *testing.T, l ...bbr.Event) {
	t.Helper()
	e, _ := bbr.New(p.plain.setup)
	for _, x := range l {
		e.On(x)
	}
	if read(p.Engine()) != read(e) || !slices.Equal(p.plain.events, l) {
		t.Fatalf("behind %v: the engine was told %v, not %v", p.last(), p.plain.events, l)
	}
}

// packet is one of 1500 bytes.
func packet(n uint64, s api.Stamp) api.Packet { return api.Packet{N: n, Size: 1500, Stamp: s} }

// packets are n of 1500 bytes, with a stamp.
func packets(first, n uint64, s api.Stamp) (l []api.Packet) {
	for i := range n {
		l = append(l, packet(first+i, s))
	}
	return l
}

// P17.1 (S1: New): a setup that may not be: 15's error, and no sender.
func TestNewWrong(t *testing.T) {
	for i, c := range []api.Conf{
		{},
		with(func(c *api.Conf) { c.MSS = 0 }),
		with(func(c *api.Conf) { c.MSS = 65536 }),
		with(func(c *api.Conf) { c.Init = 3 }),
		with(func(c *api.Conf) { c.Init = 1001 }),
		with(func(c *api.Conf) { c.Reorder = 0 }),
		with(func(c *api.Conf) { c.Reorder = 101 }),
		with(func(c *api.Conf) { c.Window = 0 }),
		with(func(c *api.Conf) { c.Window = 1<<40 + 1 }),
		with(func(c *api.Conf) { c.ProbeLen = 0 }),
		with(func(c *api.Conf) { c.ProbeLen = 1<<40 + 1 }),
		with(func(c *api.Conf) { c.Loss = 1001 }),
		{MSS: greatest, Init: greatest, Reorder: greatest, Window: greatest, ProbeLen: greatest, Loss: greatest},
	} {
		s, e := sender.New(c)
		if _, f := bbr.New(c); s != nil || e != api.ErrArg || e != f {
			t.Errorf("%d: New(%v): %v, %d", i, c, s, e)
		}
	}
}

// P17.1 (S1: New): a sender: at 0, with nothing that waits, or is in flight, and an engine of its setup, that was told nothing.
func TestNew(t *testing.T) {
	for _, c := range []api.Conf{
		setup(),
		{MSS: 1, Init: 4, Reorder: 1, Window: 1, ProbeLen: 1, Loss: 0},
		{MSS: 65535, Init: 1000, Reorder: 100, Window: 1 << 40, ProbeLen: 1 << 40, Loss: 1000},
	} {
		p := newPair(t, c)
		e, _ := bbr.New(c)
		if got, want := look(p.Sender), (told{engine: read(e)}); got != want {
			t.Errorf("New(%v): %v, not %v", c, got, want)
		}
		if p.Conf != c || p.Engine() != p.Engine() || p.Engine().Conf != c {
			t.Errorf("New(%v): of %v", c, p.Conf)
		}
	}
}

// P17.1 (S1: Write): up to the clock's most bytes; then its error, and nothing waits more.
func TestWrite(t *testing.T) {
	p := newPair(t, setup())
	p.does(t, write(0))
	p.stands(t, 0, 0)
	p.does(t, write(1), write(1499), write(0), write(7))
	p.stands(t, 1507, 0)
	p.does(t, write(api.MaxBytes-1507))
	p.stands(t, api.MaxBytes, 0)
	p.does(t, write(0))
	p.fails(t, write(1), api.ErrHorizon)
	p.stands(t, api.MaxBytes, 0)
	p.fails(t, write(0), api.ErrHorizon)
	p.fails(t, tick(0), api.ErrHorizon)
	p.fails(t, ack(0), api.ErrHorizon)

	for _, n := range []uint64{api.MaxBytes + 1, 1 << 63, greatest - 4, greatest} {
		p = newPair(t, setup())
		p.does(t, write(5))
		p.fails(t, write(n), api.ErrHorizon)
		p.stands(t, 5, 0)
		p.never(t)
	}
}

// P17.1 (S1: Write): all bytes that were written count, those that were acknowledged too, those that wait again once.
func TestWriteInAll(t *testing.T) {
	p := newPair(t, setup())
	p.does(t, write(3000), tick(1000), tick(1001000)) // both are lost, and go again
	p.stands(t, 0, 3000)
	p.does(t, ack(1002000, to(2, 3)), write(api.MaxBytes-3000))
	p.stands(t, api.MaxBytes-3000, 0)
	p.fails(t, write(1), api.ErrHorizon)
}

// P17.1 (S1: Tick): its times.
func TestTickTimes(t *testing.T) {
	p := newPair(t, setup())
	p.does(t, write(1500), tick(0), tick(0), tick(7))
	p.fails(t, tick(6), api.ErrRange)
	p.fails(t, tick(0), api.ErrRange)
	p.ticks(t, 7)
	p.ticks(t, 36)
	p.ticks(t, 37, packet(0, api.Stamp{Sent: 37, First: 37, At: 37}))
	p.fails(t, tick(36), api.ErrRange)
	p.does(t, write(1500))
	p.ticks(t, api.Horizon, packet(1, api.Stamp{Sent: api.Horizon, First: api.Horizon, At: api.Horizon, Limited: true}), packet(2, api.Stamp{Sent: api.Horizon, First: api.Horizon, At: api.Horizon, Limited: true}))
	p.ticks(t, api.Horizon)
	p.fails(t, tick(api.Horizon-1), api.ErrRange)

	for _, now := range []uint64{api.Horizon + 1, 1 << 63, greatest} {
		p = newPair(t, setup())
		p.does(t, write(30000), tick(1000))
		p.stands(t, 15000, 15000)
		p.fails(t, tick(now), api.ErrHorizon) // though all that is out would be lost then
		p.stands(t, 15000, 15000)
		p.never(t)
		if p.Time() != 1000 || !p.Past() {
			t.Errorf("at %d, past %v", p.Time(), p.Past())
		}
		for _, c := range []call{tick(1000), tick(2000), tick(0), tick(now), write(0), ack(1000, to(0, 9)), ack(0), ack(2000, to(1, 0))} {
			p.fails(t, c, api.ErrHorizon)
		}
		p.stands(t, 15000, 15000)
	}
}

// DOC.md, the seventh example, and P17.1 (S1: Tick; S3: Next): packets go one by one, as the pace earns them.
func TestSpaced(t *testing.T) {
	p := newPair(t, setup())
	p.does(t, write(30000))
	p.never(t) // ahead of a tick there is no quantum
	p.ticks(t, 0)
	var times []uint64
	for n := range uint64(10) {
		at, _ := p.Next()
		p.ticks(t, at-1)
		p.will(t, at)
		p.ticks(t, at, packet(n, api.Stamp{Sent: at, First: 37, At: 37}))
		times = append(times, at)
	}
	if want := []uint64{37, 73, 109, 145, 181, 217, 253, 289, 325, 362}; !slices.Equal(times, want) {
		t.Errorf("at %v, not %v", times, want)
	}
	p.stands(t, 15000, 15000)
	p.never(t) // cwnd is full
	p.ticks(t, 1000)
	p.knows(t)
}

// P17.1 (Words: packets go): of MSS bytes, the last one smaller; as many as cwnd lets go.
func TestPackets(t *testing.T) {
	stamp := api.Stamp{Sent: 1000, First: 1000, At: 1000}
	for _, c := range []struct{ written, full, last, waiting uint64 }{
		{0, 0, 0, 0},
		{1, 0, 1, 0},
		{1499, 0, 1499, 0},
		{1500, 1, 0, 0},
		{1501, 1, 1, 0},
		{4400, 2, 1400, 0},
		{14999, 9, 1499, 0},
		{15000, 10, 0, 0},
		{15001, 10, 0, 1},
		{17777, 10, 0, 2777},
		{api.MaxBytes, 10, 0, api.MaxBytes - 15000},
	} {
		p := newPair(t, setup())
		p.does(t, write(c.written))
		want := packets(0, c.full, stamp)
		if c.last > 0 {
			want = append(want, api.Packet{N: c.full, Size: c.last, Stamp: stamp})
		}
		p.ticks(t, 1000, want...)
		p.stands(t, c.waiting, 1500*c.full+c.last)
		p.never(t)
	}
}

// P17.1 (Words: packets go), P17.2: as many as the credit lets go; the first one that does not go ends it, though a smaller one might have gone.
func TestCredit(t *testing.T) {
	stamp := api.Stamp{Sent: 100, First: 100, At: 100}
	p := newPair(t, setup())
	p.does(t, write(4600))
	p.ticks(t, 100, packets(0, 2, stamp)...) // with a credit of 4155 bytes
	p.stands(t, 1600, 3000)
	p.will(t, 109)
	p.ticks(t, 108)
	p.ticks(t, 109, packet(2, api.Stamp{Sent: 109, First: 100, At: 100}))
	p.will(t, 111) // the last one has 100 bytes
	p.ticks(t, 110)
	p.ticks(t, 111, api.Packet{N: 3, Size: 100, Stamp: api.Stamp{Sent: 111, First: 100, At: 100}})
	p.stands(t, 0, 4600)

	// 64 packets are the greatest quantum, though the pace earned more
	p = newPair(t, with(func(c *api.Conf) { c.Init = 1000 }))
	p.does(t, write(1500000))
	p.ticks(t, 900000, packets(0, 64, api.Stamp{Sent: 900000, First: 900000, At: 900000})...)
	p.will(t, 900001)
	p.ticks(t, 900000)
	p.ticks(t, 900001, packets(64, 2, api.Stamp{Sent: 900001, First: 900000, At: 900000})...) // 4155 bytes
	p.stands(t, 1401000, 99000)
}

// P17.1 (Words: packets go; S3: Next), P17.2: with what is in flight at most cwnd, to the byte.
func TestCwnd(t *testing.T) {
	small := with(func(c *api.Conf) { c.Init, c.Reorder = 4, 4 }) // 6000 bytes
	p := newPair(t, small)
	p.does(t, write(5000), tick(1000))
	p.stands(t, 0, 5000)
	p.does(t, write(1001))
	p.never(t) // 1000 would fit, and would have credit
	p.ticks(t, 2000)
	p.stands(t, 1001, 5000)
	p.does(t, write(3000))
	p.never(t)
	p.ticks(t, 3000)
	p.does(t, ack(3000, one(3))) // 500 bytes: cwnd is 6500
	p.will(t, 3000)
	p.ticks(t, 3000, packet(4, api.Stamp{Sent: 3000, First: 1000, Delivered: 500, At: 3000, Limited: true}))
	p.stands(t, 2501, 6000)
	p.never(t)

	p = newPair(t, small)
	p.does(t, write(5000), tick(1000), write(1000))
	p.will(t, 1000)
	p.ticks(t, 1000, api.Packet{N: 4, Size: 1000, Stamp: api.Stamp{Sent: 1000, First: 1000, At: 1000, Limited: true}})
	p.stands(t, 0, 6000)
	p.does(t, write(1))
	p.never(t)
	p.ticks(t, 1001)
}

// P17.1 (Words: packets go): a stamp tells its time, and what was in flight ahead of the packet: a flight begins with the first one alone.
func TestStamps(t *testing.T) {
	p := newPair(t, setup())
	p.does(t, write(60000))
	p.ticks(t, 40, packet(0, api.Stamp{Sent: 40, First: 40, At: 40}))
	p.ticks(t, 80, packet(1, api.Stamp{Sent: 80, First: 40, At: 40}))
	p.ticks(t, 120, packet(2, api.Stamp{Sent: 120, First: 40, At: 40}))
	p.does(t, ack(130, one(1)))
	p.ticks(t, 1130, packets(3, 10, api.Stamp{Sent: 1130, First: 80, Delivered: 1500, At: 130})...) // packet 0 is lost then, and cwnd is 16500
	p.stands(t, 42000, 16500)
	p.does(t, ack(1140, to(0, 99)))
	p.stands(t, 42000, 0)
	p.does(t, ack(9000, to(0, 99)))
	l := p.do(t, tick(9000)).gone
	if want := packets(13, uint64(len(l)), api.Stamp{Sent: 9000, First: 9000, Delivered: 18000, At: 9000}); len(l) < 2 || !slices.Equal(l, want) {
		t.Errorf("%v, not %v", l, want)
	}
}
