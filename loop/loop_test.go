package loop_test

import (
	"testing"

	"goit/api"
	"goit/conf"
	"goit/link"
	"goit/loop"
	"goit/sender"
)

// setup is the one of most tests: packets of 1500 bytes, 15000 bytes in flight at first, with a pace of 41550000, and a quantum of 41550.
func setup() api.Conf { return conf.Default() }

// with is that one, changed.
func with(f func(c *api.Conf)) api.Conf {
	c := setup()
	f(&c)
	return c
}

// path is the one of most tests: a packet takes a thousandth of a second, the queue has room for three.
func path() api.Path { return api.Path{Rate: 1500000, Delay: 10000, Jitter: 500, Buffer: 4500} }

// report is one.
func report(delivered, sent, kept int) loop.Report {
	return loop.Report{Delivered: delivered, Sent: sent, Kept: kept}
}

// count is a link's: bytes that came, and what became of them.
func count(came, dropped, queued, served, under, delivered uint64) link.Count {
	return link.Count{Came: came, Dropped: dropped, Queued: queued, Served: served, Under: under, Delivered: delivered}
}

// does makes a call, and holds what it reports, and its error.
func (p *pair) does(t *testing.T, c call, r loop.Report, e api.Errno) {
	t.Helper()
	if a := p.do(t, c); a.report != r || a.errno != e {
		p.fatal(t, a.report, a.errno, ", not ", r, e)
	}
}

// goes makes calls, none of which answers an error.
func (p *pair) goes(t *testing.T, l ...call) {
	t.Helper()
	for _, c := range l {
		if a := p.do(t, c); a.errno != api.OK {
			p.fatal(t, "error ", a.errno)
		}
	}
}

// stands holds what waits, what is in flight, and both times.
func (p *pair) stands(t *testing.T, waiting, flight, time, linkTime uint64) {
	t.Helper()
	if p.Waiting() != waiting || p.InFlight() != flight || p.Time() != time || p.Link().Time() != linkTime {
		p.fatal(t, p.Waiting(), p.InFlight(), p.Time(), p.Link().Time(), ", not ", waiting, flight, time, linkTime)
	}
}

// counts holds what the link counts.
func (p *pair) counts(t *testing.T, c link.Count) {
	t.Helper()
	if got := p.Link().Count(); got != c {
		p.fatal(t, got, ", not ", c)
	}
}

// line is a step, what it reports, and what stands behind it.
type line struct {
	step                  loop.Step
	report                loop.Report
	waiting, flight, time uint64
	count                 link.Count
}

// lines holds a loop against lines.
func (p *pair) lines(t *testing.T, l ...line) {
	t.Helper()
	for _, x := range l {
		p.does(t, do(x.step), x.report, api.OK)
		p.stands(t, x.waiting, x.flight, x.time, x.time)
		p.counts(t, x.count)
	}
}

// wrongSetups are some that may not be, in each of their numbers.
func wrongSetups() []api.Conf {
	return []api.Conf{
		{},
		with(func(c *api.Conf) { c.MSS = 0 }),
		with(func(c *api.Conf) { c.MSS = 65536 }),
		with(func(c *api.Conf) { c.Init = 3 }),
		with(func(c *api.Conf) { c.Init = 1001 }),
		with(func(c *api.Conf) { c.Reorder = 0 }),
		with(func(c *api.Conf) { c.Reorder = 101 }),
		with(func(c *api.Conf) { c.Window = 0 }),
		with(func(c *api.Conf) { c.Window = 1<<40 + 1 }),
		with(func(c *api.Conf) { c.ProbeLen = 0 }),
		with(func(c *api.Conf) { c.ProbeLen = 1<<40 + 1 }),
		with(func(c *api.Conf) { c.Loss = 1001 }),
		{MSS: greatest, Init: greatest, Reorder: greatest, Window: greatest, ProbeLen: greatest, Loss: greatest},
	}
}

// wrongPaths are some that may not be.
func wrongPaths() []api.Path {
	return []api.Path{
		{},
		{Rate: 0, Delay: 1, Jitter: 1, Buffer: 1},
		{Rate: 1<<40 + 1, Delay: 1, Jitter: 1, Buffer: 1},
		{Rate: 1, Delay: 1<<42 + 1, Jitter: 1, Buffer: 1},
		{Rate: 1, Delay: 1, Jitter: 1<<42 + 1, Buffer: 1},
		{Rate: 1, Delay: 1, Jitter: 1, Buffer: 0},
		{Rate: 1, Delay: 1, Jitter: 1, Buffer: 1<<56 + 1},
		{Rate: greatest, Delay: greatest, Jitter: greatest, Buffer: greatest},
	}
}

// rightSetups are some that may be: a usual one, and those at both ends.
func rightSetups() []api.Conf {
	return []api.Conf{
		setup(),
		{MSS: 1, Init: 4, Reorder: 1, Window: 1, ProbeLen: 1, Loss: 0},
		{MSS: 65535, Init: 1000, Reorder: 100, Window: 1 << 40, ProbeLen: 1 << 40, Loss: 1000},
	}
}

// rightPaths are such paths.
func rightPaths() []api.Path {
	return []api.Path{
		path(),
		{Rate: 1, Delay: 0, Jitter: 0, Buffer: 1},
		{Rate: 1 << 40, Delay: 1 << 42, Jitter: 1 << 42, Buffer: 1 << 56},
	}
}

// P23.1 (L1: New): a setup that may not be, a path that may not be, and both: no loop, and ErrArg, which is 17's error, and 21's.
func TestNewWrong(t *testing.T) {
	wrong := func(c api.Conf, p api.Path) {
		t.Helper()
		if l, e := loop.New(c, p); l != nil || e != api.ErrArg {
			t.Errorf("New(%v, %v): %v, %d", c, p, l, e)
		}
	}
	for _, c := range wrongSetups() {
		if _, e := sender.New(c); e != api.ErrArg {
			t.Errorf("a sender of %v: %d", c, e)
		}
		for _, p := range append(rightPaths(), wrongPaths()...) {
			wrong(c, p)
		}
	}
	for _, p := range wrongPaths() {
		if _, e := link.New(p); e != api.ErrArg {
			t.Errorf("a link of %v: %d", p, e)
		}
		for _, c := range rightSetups() {
			wrong(c, p)
		}
	}
}

// P23.1 (L1: New, Sender, Link): a loop of its setup, and its path, at time 0, with nothing in it; Sender and Link tell the same each time, and another loop's are others.
func TestNew(t *testing.T) {
	for _, c := range rightSetups() {
		for _, p := range rightPaths() {
			x, y := newPair(t, c, p), newPair(t, c, p)
			if x.Conf != c || x.Sender().Conf != c || x.Link().Path != p {
				x.fatal(t, x.Conf, x.Link().Path)
			}
			s, k := x.Sender(), x.Link()
			x.stands(t, 0, 0, 0, 0)
			x.counts(t, link.Count{})
			x.goes(t, do(), do(loop.Step{Write: 3}), do(after(100), after(1000)), write(5), tick(1100))
			if s == nil || k == nil || x.Sender() != s || x.Link() != k || y.Sender() == s || y.Link() == k {
				x.fatal(t, "another sender, or link")
			}
			y.stands(t, 0, 0, 0, 0)
		}
	}
}

// P23.1 (Words: a step; L1: Do): a run by hand, step by step.
func TestSteps(t *testing.T) {
	p := newPair(t, setup(), path())
	p.lines(t, []line{
		// without time there is no credit
		{loop.Step{Write: 20000}, report(0, 0, 0), 20000, 0, 0, link.Count{}},
		{after(36), report(0, 0, 0), 20000, 0, 36, link.Count{}},
		{after(1), report(0, 1, 1), 18500, 1500, 37, count(1500, 0, 1500, 0, 0, 0)},
		// packet 0 is served, due at 11300, and makes room for three of nine
		{loop.Step{After: 963, Choices: []uint64{300}}, report(0, 9, 3), 5000, 15000, 1000, count(15000, 9000, 4500, 1500, 1500, 0)},
		// packets 1 and 2 are, due at 13000 and, by the jitter, at 13500
		{loop.Step{After: 2000, Choices: []uint64{0, 9999}}, report(0, 0, 0), 5000, 15000, 3000, count(15000, 9000, 1500, 4500, 4500, 0)},
		// packet 3 is, due at 21299
		{after(8299), report(0, 0, 0), 5000, 15000, 11299, count(15000, 9000, 0, 6000, 6000, 0)},
		// packet 0 is delivered: cwnd is 16500, and the quantum 3000
		{after(1), report(1, 2, 2), 2000, 16500, 11300, count(18000, 9000, 3000, 6000, 4500, 1500)},
		// packet 1 is, with a credit of 1089 bytes behind it; packets 10 and 11 are served
		{after(1700), report(1, 0, 0), 2000, 15000, 13000, count(18000, 9000, 0, 9000, 6000, 3000)},
		{after(500), report(1, 1, 1), 500, 15000, 13500, count(19500, 9000, 1500, 9000, 4500, 4500)},
		{after(0), report(0, 0, 0), 500, 15000, 13500, count(19500, 9000, 0, 10500, 6000, 4500)},
		{after(5000), report(0, 1, 1), 0, 15500, 18500, count(20000, 9000, 500, 10500, 6000, 4500)},
		{after(2798), report(0, 0, 0), 0, 15500, 21298, count(20000, 9000, 0, 11000, 6500, 4500)},
		// packet 3 is delivered, and nobody has overtaken packets 4 to 9
		{after(1), report(1, 0, 0), 0, 14000, 21299, count(20000, 9000, 0, 11000, 5000, 6000)},
		// packets 10 and 11 are, at once: packets 4 to 9 are lost, and wait again, and two go
		{after(1701), report(2, 2, 2), 6000, 5000, 23000, count(23000, 9000, 3000, 11000, 2000, 9000)},
	}...)
	if p.plain.lost != 6 {
		p.fatal(t, p.plain.lost, " are lost")
	}
}

// P23.1 (Words: the bytes are written, ahead of all else): they may go in the same step, and an error of theirs ends it ahead of the link's tick.
func TestWritten(t *testing.T) {
	p := newPair(t, setup(), path())
	p.does(t, do(loop.Step{After: 37, Write: 1500}), report(0, 1, 1), api.OK)
	p.does(t, do(loop.Step{After: 36, Write: 1600}), report(0, 1, 1), api.OK)
	p.does(t, do(loop.Step{After: 927, Write: 0, Choices: []uint64{5}}), report(0, 1, 1), api.OK)
	p.stands(t, 0, 3100, 1000, 1000)
	p.counts(t, count(3100, 0, 1600, 1500, 1500, 0))
	p.does(t, do(loop.Step{After: 20000, Write: api.MaxBytes - 3099, Waste: 7}), report(0, 0, 0), api.ErrHorizon)
	p.stands(t, 0, 3100, 1000, 1000)
	p.counts(t, count(3100, 0, 1600, 1500, 1500, 0))
}

// P23.1 (Words: what goes is sent, behind all else): it is not served in its step, though there are tokens, and so nothing keeps these from being wasted; a step of 0 microseconds serves it, and delivers it, if there is no delay, and tells it.
func TestSentLast(t *testing.T) {
	near := path()
	near.Delay = 0
	p := newPair(t, setup(), near)
	p.does(t, do(loop.Step{After: 1000, Write: 6000, Waste: 400}), report(0, 4, 3), api.OK)
	p.stands(t, 0, 6000, 1000, 1000)
	p.counts(t, count(6000, 1500, 4500, 0, 0, 0))
	if k := lookLink(p.Link()); k.tokens != 1500000000-400 || k.wasted != 400 {
		p.fatal(t, k)
	}
	p.does(t, do(loop.Step{After: 2001, Waste: 400}), report(3, 0, 0), api.OK)
	p.stands(t, 0, 1500, 3001, 3001)
	p.counts(t, count(6000, 1500, 0, 4500, 0, 4500))
	p.does(t, do(loop.Step{Write: 1500}), report(0, 1, 1), api.OK)
	p.does(t, do(loop.Step{}), report(0, 0, 0), api.OK)
	// packet 4 is delivered, so that packet 3, which was dropped, is lost, and goes again
	p.does(t, do(loop.Step{After: 1000}), report(1, 1, 1), api.OK)
	p.stands(t, 0, 1500, 4001, 4001)
}

// P23.1 (Words: the sender is told, ahead of its tick): what is delivered lets packets go in the same step, by cwnd.
func TestToldFirst(t *testing.T) {
	wide := path()
	wide.Buffer = 90000
	p := newPair(t, with(func(c *api.Conf) { c.Init = 4 }), wide)
	p.goes(t, do(loop.Step{Write: 90000}), do(after(1000)))
	p.stands(t, 84000, 6000, 1000, 1000)
	p.does(t, do(after(1000), after(9999)), report(0, 0, 0), api.OK) // cwnd is full
	p.stands(t, 84000, 6000, 11999, 11999)
	// packets 0 and 1 are delivered: cwnd is 9000, and the quantum 3000
	p.does(t, do(after(1)), report(2, 2, 2), api.OK)
	p.stands(t, 81000, 6000, 12000, 12000)
}

// P23.1 (Words: its error ends the step): the link has ticked, and what it delivered is told by the report; nothing behind it is done.
func TestErrors(t *testing.T) {
	ready := func() *pair { // packet 0 is due at 11000, three packets wait in the queue
		p := newPair(t, setup(), path())
		p.goes(t, do(loop.Step{After: 37, Write: 6000}), do(after(963)), do())
		p.stands(t, 0, 6000, 1000, 1000)
		p.counts(t, count(6000, 0, 4500, 1500, 1500, 0))
		return p
	}

	// Ack: past the horizon
	p := ready()
	p.does(t, do(after(2000)), report(0, 0, 0), api.OK)
	p.does(t, do(loop.Step{After: api.Horizon, Write: 70}), report(3, 0, 0), api.ErrHorizon)
	p.stands(t, 70, 6000, 3000, api.Horizon+3000)
	p.counts(t, count(6000, 0, 0, 6000, 1500, 4500))
	p.does(t, do(loop.Step{After: 1000000}), report(0, 0, 0), api.ErrHorizon)
	p.stands(t, 70, 6000, 3000, api.Horizon+3000)

	// Ack: the sender's time is above the link's, as its own tick let it go on; once the link's is there, all goes on
	p = ready()
	p.goes(t, tick(30000))
	p.does(t, do(loop.Step{After: 10000, Write: 1500}), report(1, 0, 0), api.ErrRange)
	p.stands(t, 1500, 6000, 30000, 11000)
	p.counts(t, count(6000, 0, 0, 6000, 4500, 1500))
	p.does(t, do(after(9999)), report(0, 0, 0), api.ErrRange) // Tick's
	p.stands(t, 1500, 6000, 30000, 20999)
	p.does(t, do(after(1)), report(3, 0, 0), api.ErrRange) // Ack's, of packets 1 to 3
	p.does(t, do(after(8999)), report(0, 0, 0), api.ErrRange)
	p.stands(t, 1500, 6000, 30000, 29999)
	p.does(t, do(after(1)), report(0, 1, 1), api.OK)
	p.stands(t, 0, 7500, 30000, 30000)

	// Ack: a number that is none's, of a packet that someone else sent
	p = ready()
	l, e := loop.New(setup(), path())
	l.Do(loop.Step{After: 37, Write: 1500})
	l.Link().Send(api.Packet{N: greatest, Size: 1})
	l.Do(after(1000))
	if r, f := l.Do(loop.Step{After: 10000, Write: 1500}); e != api.OK || r != report(2, 0, 0) || f != api.ErrArg {
		t.Errorf("%v, %d", r, f)
	}
	if l.Waiting() != 1500 || l.InFlight() != 1500 || l.Time() != 1037 || l.Link().Time() != 11037 || l.Past() {
		t.Errorf("%v", look(l))
	}
	if r, f := l.Do(after(100)); r != report(0, 1, 1) || f != api.OK {
		t.Errorf("%v, %d", r, f)
	}

	// Tick, with nothing delivered: past the horizon
	p = newPair(t, setup(), path())
	p.does(t, do(loop.Step{After: api.Horizon + 1, Write: 1500, Waste: 5}), report(0, 0, 0), api.ErrHorizon)
	p.stands(t, 1500, 0, 0, api.Horizon+1)
	if k := lookLink(p.Link()); k.wasted != 5 {
		p.fatal(t, k)
	}
}

// P23.1 (Words: a step; T1): up to the horizon, in time and in bytes, and one more; then there is ErrHorizon for ever, and nothing is done.
func TestHorizon(t *testing.T) {
	ended := func(p *pair) {
		t.Helper()
		before := look(p.Loop)
		for _, c := range []call{do(loop.Step{}), do(after(1)), do(after(greatest)), do(loop.Step{Write: 1, Waste: 9}), do(after(1), after(2))} {
			p.does(t, c, report(0, 0, 0), api.ErrHorizon)
		}
		p.does(t, do(), report(0, 0, 0), api.OK)
		if after := look(p.Loop); after != before || !p.Past() {
			p.fatal(t, after, ", not ", before)
		}
	}
	for _, first := range []uint64{0, 1, 500, api.Horizon - 1, api.Horizon} {
		p := newPair(t, setup(), path())
		p.does(t, do(after(first), after(api.Horizon-first)), report(0, 0, 0), api.OK)
		p.does(t, do(after(0)), report(0, 0, 0), api.OK)
		p.does(t, do(loop.Step{Write: 1500}), report(0, 1, 1), api.OK)
		p.stands(t, 0, 1500, api.Horizon, api.Horizon)
		p.does(t, do(after(1)), report(0, 0, 0), api.ErrHorizon)
		p.stands(t, 0, 1500, api.Horizon, api.Horizon+1)
		p.counts(t, count(1500, 0, 0, 1500, 1500, 0))
		ended(p)

		p = newPair(t, setup(), path())
		p.does(t, do(after(first), after(api.Horizon-first+1)), report(0, 0, 0), api.ErrHorizon)
		p.stands(t, 0, 0, first, api.Horizon+1)
		ended(p)
	}
	for _, first := range []uint64{0, 1, 1 << 40, api.MaxBytes - 1, api.MaxBytes} {
		p := newPair(t, setup(), path())
		p.does(t, do(loop.Step{Write: first}, loop.Step{Write: api.MaxBytes - first}, loop.Step{}), report(0, 0, 0), api.OK)
		p.stands(t, api.MaxBytes, 0, 0, 0)
		p.does(t, do(loop.Step{After: 37}), report(0, 1, 1), api.OK)
		p.does(t, do(loop.Step{After: 5, Write: 1}), report(0, 0, 0), api.ErrHorizon)
		p.stands(t, api.MaxBytes-1500, 1500, 37, 37)
		ended(p)

		p = newPair(t, setup(), path())
		p.does(t, do(loop.Step{Write: first}, loop.Step{After: 5, Write: api.MaxBytes - first + 1}), report(0, 0, 0), api.ErrHorizon)
		p.stands(t, first, 0, 0, 0)
		ended(p)
	}
}

// P23.1 (L1: what would be above 2^64 - 1 is that): the link's time does not wrap round.
func TestLatest(t *testing.T) {
	for _, first := range []uint64{0, 1, 37, api.Horizon} {
		for _, x := range []uint64{greatest - first - 1, greatest - first, greatest - first/2, greatest - 1, greatest} {
			p := newPair(t, setup(), path())
			p.does(t, do(after(first)), report(0, 0, 0), api.OK)
			want := uint64(greatest)
			if x < greatest-first {
				want = first + x
			}
			p.does(t, do(after(x)), report(0, 0, 0), api.ErrHorizon)
			p.stands(t, 0, 0, first, want)
		}
	}
	// the sender is not past, as the link alone has gone on
	p := newPair(t, setup(), path())
	for _, k := range []*link.Link{p.Link(), p.plain.link} {
		k.Tick(greatest-5, 0)
	}
	p.does(t, do(after(6)), report(0, 0, 0), api.ErrHorizon)
	p.stands(t, 0, 0, 0, greatest)
}

// P23.1 (Words: the link ticks, with the waste): of none, of some, of more than there is; only with nothing in the queue, ahead of what goes.
func TestWaste(t *testing.T) {
	for _, x := range []struct{ waste, tokens, wasted uint64 }{
		{0, 55500000, 0},
		{1, 55499999, 1},
		{55499999, 1, 55499999},
		{55500000, 0, 55500000},
		{55500001, 0, 55500000},
		{greatest, 0, 55500000},
	} {
		p := newPair(t, setup(), path())
		p.does(t, do(loop.Step{After: 37, Write: 1500, Waste: x.waste}), report(0, 1, 1), api.OK)
		if k := lookLink(p.Link()); k.tokens != x.tokens || k.wasted != x.wasted {
			p.fatal(t, k)
		}
		// a packet waits: it needs 1500000000 tokens
		p.does(t, do(loop.Step{After: 900, Waste: greatest}), report(0, 0, 0), api.OK)
		if k := lookLink(p.Link()); k.tokens != x.tokens+900*1500000 || k.wasted != x.wasted {
			p.fatal(t, k)
		}
		// it is served, and then they are wasted
		p.does(t, do(loop.Step{After: 100, Waste: greatest}), report(0, 0, 0), api.OK)
		if k := lookLink(p.Link()); k.tokens != 0 || k.wasted != x.wasted+x.tokens {
			p.fatal(t, k)
		}
	}
}

// P23.1 (Words: the link ticks, with the choices): none, fewer than packets that are served, as many, more, and some above the jitter; when each is due.
func TestChoices(t *testing.T) {
	for _, x := range []struct {
		choices []uint64
		dues    []uint64 // one for each of three packets that are served at 4000
	}{
		{nil, []uint64{14000, 14000, 14000}},
		{[]uint64{}, []uint64{14000, 14000, 14000}},
		{[]uint64{0}, []uint64{14000, 14000, 14000}},
		{[]uint64{3}, []uint64{14003, 14003, 14003}},
		{[]uint64{3, 4}, []uint64{14003, 14004, 14004}},
		{[]uint64{0, 0, 9}, []uint64{14000, 14000, 14009}},
		{[]uint64{1, 2, 3}, []uint64{14001, 14002, 14003}},
		{[]uint64{1, 2, 3, 4, 500}, []uint64{14001, 14002, 14003}},
		{[]uint64{5, 2, 7}, []uint64{14005, 14005, 14007}},
		{[]uint64{499, 500, 501}, []uint64{14499, 14500, 14500}},
		{[]uint64{0, 501, greatest}, []uint64{14000, 14500, 14500}},
		{[]uint64{greatest}, []uint64{14500, 14500, 14500}},
	} {
		p := newPair(t, setup(), path())
		p.does(t, do(loop.Step{After: 1000, Write: 4500, Waste: greatest}), report(0, 3, 3), api.OK)
		p.does(t, do(loop.Step{After: 3000, Choices: x.choices}), report(0, 0, 0), api.OK)
		p.counts(t, count(4500, 0, 0, 4500, 4500, 0))
		for len(x.dues) > 0 {
			due, n := x.dues[0], 0
			for n < len(x.dues) && x.dues[n] == due {
				n++
			}
			x.dues = x.dues[n:]
			p.goes(t, do(after(due-1-p.Time())))
			p.does(t, do(after(1)), report(n, 0, 0), api.OK)
		}
	}
}

// P23.1 (L1: how many were sent, and not dropped), P23.2: with each room from none for a packet up to room for all that go.
func TestFull(t *testing.T) {
	for room := uint64(1); room <= 16501; room += 100 {
		small := path()
		small.Buffer = room
		p := newPair(t, setup(), small)
		kept := min(room/1500, 10)
		p.does(t, do(loop.Step{After: 1000, Write: 15000}), report(0, 10, int(kept)), api.OK)
		p.counts(t, count(15000, 15000-1500*kept, 1500*kept, 0, 0, 0))
		p.stands(t, 0, 15000, 1000, 1000)
	}
	// a smaller one still has room, behind one that has not
	small := path()
	small.Buffer = 3400
	p := newPair(t, setup(), small)
	p.does(t, do(loop.Step{After: 1000, Write: 4800}), report(0, 4, 3), api.OK)
	p.counts(t, count(4800, 1500, 3300, 0, 0, 0))
}

// P23.1 (L1: Do, of no steps), P23.2: nothing is done, and nothing goes on, of a loop to which nothing is written nothing is sent.
func TestNothing(t *testing.T) {
	p := newPair(t, setup(), path())
	p.does(t, do(), report(0, 0, 0), api.OK)
	p.does(t, do([]loop.Step{}...), report(0, 0, 0), api.OK)
	p.stands(t, 0, 0, 0, 0)
	for i := range uint64(200) {
		p.does(t, do(loop.Step{After: i * i * i, Waste: i * 1000000, Choices: []uint64{i}}), report(0, 0, 0), api.OK)
		p.does(t, do(), report(0, 0, 0), api.OK)
	}
	p.counts(t, link.Count{})
	p.stands(t, 0, 0, 396010000, 396010000)
}

// P23.1 (L1: Do): steps at once are those steps, one behind the other, up to the first that an error ends.
func TestAtOnce(t *testing.T) {
	run := func(n int, last ...loop.Step) (l []loop.Step) {
		for i := range n {
			l = append(l, loop.Step{After: uint64(i%4) * 300, Write: uint64(i%7) * 500, Waste: uint64(i%3) << 20, Choices: []uint64{uint64(i) % 600, 9}[:i%3]})
		}
		return append(l, last...)
	}
	for _, n := range []int{1, 2, 3, 10, 80, 500} {
		whole, single := newPair(t, setup(), path()), newPair(t, setup(), path())
		a := whole.do(t, do(run(n)...))
		for _, x := range run(n) {
			single.goes(t, do(x))
		}
		if a.errno != api.OK || whole.all != single.all || look(whole.Loop) != look(single.Loop) || n > 10 && min(a.report.Delivered, a.report.Sent-a.report.Kept) == 0 {
			whole.fatal(t, a, ", not ", single.all)
		}
	}
	// an error, in the first step, in one between, in the last one
	for _, wrong := range []struct {
		step loop.Step
		errs api.Errno
	}{
		{loop.Step{After: 3, Write: api.MaxBytes + 1}, api.ErrHorizon},
		{loop.Step{After: api.Horizon + 1, Write: 3}, api.ErrHorizon},
		{loop.Step{After: greatest}, api.ErrHorizon},
	} {
		for _, n := range []int{0, 1, 40, 200} {
			for _, behind := range []int{0, 1, 30} {
				whole, single := newPair(t, setup(), path()), newPair(t, setup(), path())
				whole.does(t, do(run(n, append([]loop.Step{wrong.step}, run(behind)...)...)...), whole.plainly(t, run(n, wrong.step)), wrong.errs)
				for _, x := range run(n) {
					single.goes(t, do(x))
				}
				if a := single.do(t, do(wrong.step)); a.errno != wrong.errs || whole.all != single.all || look(whole.Loop) != look(single.Loop) {
					whole.fatal(t, a, ", not ", single.all)
				}
			}
		}
	}
}

// plainly is what another plain loop reports of steps.
func (p *pair) plainly(t *testing.T, l []loop.Step) loop.Report {
	t.Helper()
	return start(t, p.plain.setup, p.plain.path).does(do(l...)).report
}

// P23.1 (L1: Do): an error that does not last ends the steps too; those behind it are not done, though they could be.
func TestNotLasting(t *testing.T) {
	for at := range 5 {
		p := newPair(t, setup(), path())
		steps := []loop.Step{{After: 1000, Write: 3000}, {After: 1000}, {After: 1000}, {After: 9000}, {After: 50000}}
		p.goes(t, do(steps[:at]...))
		time := p.Time()
		p.goes(t, tick(time+60000))
		a := p.do(t, do(after(59999), after(1), after(100)))
		if a.errno != api.ErrRange || p.Link().Time() != time+59999 || p.Time() != time+60000 || a.report.Sent != 0 {
			p.fatal(t, a)
		}
		p.goes(t, do(after(1), after(100)))
	}
}

// P23.1 (Ways), P23.2: a sender's own calls, promoted or by way of Sender, between two steps.
func TestOwnCalls(t *testing.T) {
	for _, by := range []bool{false, true} {
		own := func(c call) call {
			c.by = by
			return c
		}
		near := path()
		near.Delay = 5000
		p := newPair(t, setup(), near)
		// what is written waits for a step
		p.goes(t, own(write(4000)), own(write(500)))
		p.stands(t, 4500, 0, 0, 0)
		p.does(t, do(after(37)), report(0, 1, 1), api.OK)
		// when the next one goes
		if at, ok := p.Next(); at != 73 || !ok {
			p.fatal(t, at, ok)
		}
		p.does(t, do(after(35)), report(0, 0, 0), api.OK)
		p.does(t, do(after(1)), report(0, 1, 1), api.OK)
		// what goes by a tick of its own does not come into the link, whose time stays
		if a := p.do(t, own(tick(200))); len(a.gone) != 1 {
			p.fatal(t, a)
		}
		p.stands(t, 0, 4500, 200, 73)
		p.counts(t, count(3000, 0, 3000, 0, 0, 0))
		p.does(t, do(after(126)), report(0, 0, 0), api.ErrRange)
		p.does(t, do(after(1)), report(0, 0, 0), api.OK)
		// what is acknowledged by a call of its own is so once: packets 0 and 1 are due at 7000
		p.does(t, do(after(1800)), report(0, 0, 0), api.OK)
		p.goes(t, own(ack(2000, one(0))))
		p.stands(t, 0, 3000, 2000, 2000)
		p.does(t, do(after(5000)), report(2, 0, 0), api.OK)
		p.stands(t, 0, 1500, 7000, 7000)
		p.goes(t, own(ack(7500, one(2))))
		p.stands(t, 0, 0, 7500, 7000)
		p.does(t, do(after(499)), report(0, 0, 0), api.ErrRange)
		p.does(t, do(after(1)), report(0, 0, 0), api.OK)
		// past the horizon by a call of its own
		if a := p.do(t, own(write(api.MaxBytes))); a.errno != api.ErrHorizon {
			p.fatal(t, a)
		}
		p.does(t, do(after(5)), report(0, 0, 0), api.ErrHorizon)
		p.stands(t, 0, 0, 7500, 7500)
	}
}

// P1, DOC.md, rule 8: every call on a nil loop.
func TestNil(t *testing.T) {
	l, _ := loop.New(api.Conf{}, api.Path{})
	for _, x := range [][]loop.Step{nil, {}, {{}}, {{After: 1, Write: 1, Waste: 1, Choices: []uint64{1}}, {After: greatest, Write: greatest}}} {
		if r, e := l.Do(x...); r != (loop.Report{}) || e != api.ErrArg {
			t.Errorf("Do: %v, %d", r, e)
		}
	}
	if l.Sender() != nil || l.Link() != nil {
		t.Error("a nil loop has a sender, or a link")
	}
}
