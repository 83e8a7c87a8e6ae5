package loop_test

import (
	"slices"
	"testing"

	"goit/api"
	"goit/loop"
)

// mixer gives numbers in an order that shows no rule.
type mixer uint64

func (m *mixer) turn() uint64 {
	*m = *m*6364136223846793005 + 1442695040888963407
	return uint64(*m)
}

// below is a number below another one.
func (m *mixer) below(n uint64) uint64 { return m.turn() >> 20 % n }

// number is one of any length, up to most.
func (m *mixer) number(most uint64) uint64 {
	x := m.turn() >> m.below(64)
	if most == greatest {
		return x
	}
	return x % (most + 1)
}

// scale is a setup, a path, how long steps are at most, and how much is written in one.
type scale struct {
	setup         api.Conf
	path          api.Path
	length, bytes uint64
}

func scales() []scale {
	most := rightSetups()[2]
	brief := with(func(c *api.Conf) { c.Window, c.ProbeLen, c.Loss = 400000, 20000, 300 })
	return []scale{
		{setup(), path(), 1000, 1500},
		{setup(), api.Path{Rate: 1500000, Delay: 20000, Jitter: 5000, Buffer: 60000}, 2000, 4000},
		{setup(), api.Path{Rate: 300000, Delay: 1000, Jitter: 0, Buffer: 3000}, 20000, 9000},
		{brief, api.Path{Rate: 1500000, Delay: 10000, Jitter: 100, Buffer: 60000}, 3000, 9000},
		{brief, api.Path{Rate: 6000000, Delay: 4000, Jitter: 30000, Buffer: 20000}, 9000, 90000},
		{with(func(c *api.Conf) { c.MSS, c.Init, c.Reorder, c.Window = 10, 40, 100, 300000 }), api.Path{Rate: 40000, Delay: 3000, Jitter: 3000, Buffer: 250}, 3000, 90},
		{with(func(c *api.Conf) { c.Init, c.Reorder, c.Loss = 4, 1, 0 }), api.Path{Rate: 1 << 20, Delay: 0, Jitter: 9, Buffer: 7000}, 9000, 9000},
		{rightSetups()[1], rightPaths()[1], 1000000, 5},
		{rightSetups()[1], api.Path{Rate: 1000000, Delay: 3, Jitter: 2, Buffer: 9}, 9, 9},
		{most, api.Path{Rate: api.MaxRate, Delay: 100, Jitter: 100, Buffer: api.MaxBytes}, 1000, 1 << 40},
		{most, api.Path{Rate: 1 << 26, Delay: 30000, Jitter: 10000, Buffer: 1 << 20}, 30000, 1 << 30},
		{setup(), api.Path{Rate: 1500000, Delay: api.Horizon / 2, Jitter: api.Horizon, Buffer: 30000}, api.Horizon / 200, 1 << 30},
		{setup(), api.Path{Rate: 1, Delay: 10, Jitter: 0, Buffer: 1 << 30}, 1 << 33, 9000},
	}
}

// length is how long a step is: till something comes to be, or a microsecond beside that, or any time.
func (m *mixer) length(p *plain, s scale) uint64 {
	now, at := p.link.Time(), p.link.Time()
	switch m.below(8) {
	case 0:
		at, _ = p.sender.Next()
	case 1, 2:
		at, _ = p.link.Next()
	case 3:
		if len(p.out) > 0 {
			at = p.out[0].Stamp.Sent + p.estimate.Limit()
		}
	case 4:
		return 0
	default:
		return m.number(s.length)
	}
	at += m.below(3)
	if at <= now {
		return 0
	}
	return min(at-now-1, api.Horizon/100)
}

// step is one of some scale, behind calls that made a plain loop.
func (m *mixer) step(p *plain, s scale) loop.Step {
	x := loop.Step{After: m.length(p, s)}
	if m.below(2) == 0 {
		x.Write = m.number(s.bytes)
	}
	if m.below(3) == 0 {
		x.Waste = m.number(greatest)
	}
	for range m.below(4) {
		x.Choices = append(x.Choices, m.number(2*s.path.Jitter+1))
	}
	return x
}

// ranges are some, of packets that were sent, or near these.
func (m *mixer) ranges(p *plain) (l []api.Range) {
	for range m.below(3) {
		if len(p.out) == 0 {
			return []api.Range{one(m.below(9))}
		}
		x := p.out[m.below(uint64(len(p.out)))].N
		l = append(l, to(x, x+m.below(3)))
	}
	return l
}

// call is one: most are a step, some are some steps at once, some are the sender's own.
func (m *mixer) call(p *plain, s scale) call {
	c := do(m.step(p, s))
	switch m.below(40) {
	case 0:
		c = do()
	case 1, 2:
		for range m.below(6) {
			c.steps = append(c.steps, m.step(p, s))
		}
	case 3:
		c = write(m.number(s.bytes))
	case 4:
		c = tick(p.link.Time() + m.number(s.length)/9)
	case 5:
		c = tick(p.sender.Time() - min(p.sender.Time(), m.below(3)))
	case 6:
		c = ack(p.sender.Time()+m.number(s.length)/9, m.ranges(p)...)
	case 7:
		c = ack(p.sender.Time()+m.below(9), to(m.below(9), m.below(9)))
	}
	c.by = m.below(2) == 0
	return c
}

// tally is what came about in many runs.
type tally struct {
	states                                        map[api.State]int
	delivered, sent, dropped, lost, behind, steps int
}

// P23.1, P23.2, T3 to T5: mixed steps, and calls of the sender's own, of all scales; packets are delivered, dropped, lost, and steps end with an error.
func TestMixed(t *testing.T) {
	all := tally{states: map[api.State]int{}}
	for i, s := range scales() {
		for round := range uint64(6) {
			m := mixer(100*uint64(i) + round)
			p := newPair(t, s.setup, s.path)
			for range 1000 {
				c := m.call(p.plain, s)
				if p.Past() || p.plain.written+6*s.bytes > api.MaxBytes {
					break
				}
				a := p.do(t, c)
				all.states[p.Engine().State()]++
				all.steps++
				if a.errno == api.ErrRange && c.name == "Do" {
					all.behind++
				}
			}
			all.delivered += p.all.Delivered
			all.sent += p.all.Sent
			all.dropped += p.all.Sent - p.all.Kept
			all.lost += p.plain.lost
			p.ends(t, m)
		}
	}
	if len(all.states) != int(api.ProbeRTT)+1 || min(all.delivered, all.dropped, all.lost, all.behind) < 500 || all.steps < 60000 {
		t.Errorf("%+v", all)
	}
}

// ends lets a loop be past the horizon, in one of four ways: behind that each step has that error.
func (p *pair) ends(t *testing.T, m mixer) {
	t.Helper()
	steps := []loop.Step{
		{After: api.Horizon + 1},
		{After: greatest, Waste: greatest, Choices: []uint64{greatest}},
		{After: 1, Write: api.MaxBytes - p.plain.written + 1},
		{Write: greatest},
	}
	if a := p.do(t, do(steps[m.below(4)])); a.errno != api.ErrHorizon || !p.Past() {
		p.fatal(t, a)
	}
	for _, x := range append(steps, loop.Step{}, after(1)) {
		p.does(t, do(x), report(0, 0, 0), api.ErrHorizon)
	}
}

// P23.1, P23.2: all rows of five of ten calls, on three setups, and paths.
func TestRows(t *testing.T) {
	for _, s := range []scale{
		{setup: setup(), path: path()},
		{setup: with(func(c *api.Conf) { c.MSS, c.Init, c.Reorder = 100, 4, 1 }), path: api.Path{Rate: 100000, Delay: 3000, Jitter: 0, Buffer: 250}},
		{setup: with(func(c *api.Conf) { c.Init, c.Window, c.Loss = 5, 10000, 0 }), path: api.Path{Rate: 3000000, Delay: 0, Jitter: 5000, Buffer: 60000}},
	} {
		mss := s.setup.MSS
		l := []call{
			do(loop.Step{Write: 9 * mss, After: 37}),
			do(loop.Step{Write: mss + 1, After: 1000, Waste: 1 << 30}),
			do(after(0)),
			do(after(1)),
			do(loop.Step{After: 1000, Choices: []uint64{400, 0}}),
			do(loop.Step{After: 9000, Choices: []uint64{0, 100, 600}}),
			do(after(3000), after(10000)),
			do(loop.Step{After: 1000000, Waste: greatest}),
			tick(4000),
			ack(5000, to(0, 1)),
		}
		for row := range 100000 {
			p := newPair(t, s.setup, s.path)
			for range 5 {
				p.do(t, l[row%10])
				row /= 10
			}
		}
	}
}

// P23.2, T5, from outside alone: where nothing is dropped, and nothing is late, what was written waits, is in flight, or was delivered.
func TestNothingLost(t *testing.T) {
	for _, p := range []api.Path{
		{Rate: 1500000, Delay: 10000, Jitter: 0, Buffer: 1 << 30},
		{Rate: 30000000, Delay: 0, Jitter: 0, Buffer: 1 << 30},
		{Rate: 1500000, Delay: 300, Jitter: 200, Buffer: 1 << 30},
	} {
		l, e := loop.New(setup(), p)
		if e != api.OK {
			t.Fatal(e)
		}
		written, all := uint64(0), loop.Report{}
		for i := range uint64(5000) {
			x := loop.Step{After: 100, Choices: []uint64{i % 200, i % 7}}
			if i < 4000 {
				x.Write = i % 300
			}
			before, quantum := l.Link().Count().Came, uint64(0)
			r, e := l.Do(x)
			c := l.Link().Count()
			written, quantum = written+x.Write, l.Engine().Quantum()
			all = report(all.Delivered+r.Delivered, all.Sent+r.Sent, all.Kept+r.Kept)
			if e != api.OK || r.Sent != r.Kept || c.Dropped != 0 || c.Came-before > quantum {
				t.Fatalf("%v, step %d: %v, %d, %v", p, i, r, e, c)
			}
			if l.Waiting()+l.InFlight()+c.Delivered != written || c.Queued+c.Under != l.InFlight() || c.Came != c.Queued+c.Under+c.Delivered {
				t.Fatalf("%v, step %d: %d written, %d waiting, %d in flight, %v", p, i, written, l.Waiting(), l.InFlight(), c)
			}
		}
		if c := l.Link().Count(); c.Delivered != written || written < 500000 || all.Delivered != all.Sent {
			t.Errorf("%v: %d of %d were delivered, %v", p, c.Delivered, written, all)
		}
	}
}

// P1, P23.1: numbers at both ends, each by each, on setups and paths at both ends.
func TestEnds(t *testing.T) {
	ends := []uint64{0, 1, api.Horizon - 1, api.Horizon, api.Horizon + 1, api.MaxBytes, api.MaxBytes + 1, greatest - 1, greatest}
	for _, c := range rightSetups() {
		for _, r := range rightPaths() {
			for _, a := range ends {
				for _, b := range ends {
					p := newPair(t, c, r)
					p.do(t, do(loop.Step{After: a, Write: b, Waste: b, Choices: []uint64{a, b}}, loop.Step{After: b, Write: a}))
					p = newPair(t, c, r)
					for _, x := range []loop.Step{{Write: 7}, {After: a, Waste: b}, {Write: a}, {Waste: a, Choices: []uint64{b}}, {After: b, Choices: []uint64{a, a}}, {Write: b}, {After: 1}} {
						p.do(t, do(x))
					}
				}
			}
		}
	}
}

// P2: loops beside one another, of one setup and path, and of others, in turns: each answers as it does alone; the same calls have the same answers.
func TestBeside(t *testing.T) {
	s := scales()[3]
	small := scales()[5]
	m := mixer(77)
	p := newPair(t, s.setup, s.path)
	var l []call
	for range 400 {
		l = append(l, m.call(p.plain, s))
		p.do(t, l[len(l)-1])
	}
	pairs := []*pair{newPair(t, s.setup, s.path), newPair(t, s.setup, s.path), newPair(t, small.setup, small.path), newPair(t, s.setup, small.path)}
	for i, c := range l {
		for j, q := range pairs {
			if j > 0 {
				c = l[(i*7+j)%len(l)]
			}
			q.do(t, c)
		}
	}
	if look(pairs[0].Loop) != look(p.Loop) || pairs[0].all != p.all {
		t.Errorf("%v, not %v", look(pairs[0].Loop), look(p.Loop))
	}
}

// DOC.md, rule 4, P2: the steps, and their choices, are as they were, and what lies behind their lengths; what is written into them behind a call is no matter.
func TestHandedIn(t *testing.T) {
	choices := [][]uint64{{100, 200, 300, 77, 78}, {5}, {}, nil}
	row := func() []loop.Step {
		var l []loop.Step
		for i, n := range []int{3, 1, 0, 0} {
			l = append(l, loop.Step{After: 1000, Write: 4500, Waste: uint64(i), Choices: slices.Clone(choices[i])[:n]})
		}
		return append(l, loop.Step{After: 999, Write: 999, Choices: []uint64{9}}) // behind the length
	}
	l, untouched := row(), row()
	p, q := newPair(t, setup(), path()), newPair(t, setup(), path())
	for range 30 {
		got, e := p.Do(l[:4]...)
		want := q.do(t, do(untouched[:4]...))
		if got != want.report || e != want.errno || look(p.Loop) != look(q.Loop) {
			t.Fatalf("%v, %d, not %v", got, e, want)
		}
		for i, x := range l {
			y := untouched[i]
			if x.After != y.After || x.Write != y.Write || x.Waste != y.Waste || !slices.Equal(x.Choices[:cap(x.Choices)], y.Choices[:cap(y.Choices)]) {
				t.Fatalf("%v, not %v", x, y)
			}
		}
		for _, x := range l {
			for i := range x.Choices {
				x.Choices[i] = greatest
			}
		}
		l = row()
	}
}

// DOC.md, the ninth example: what it tells is told of a loop.
func TestNinth(t *testing.T) {
	p := newPair(t, setup(), api.Path{Rate: 1000000, Delay: 10000, Jitter: 0, Buffer: 30000})
	p.does(t, do(loop.Step{Write: 6000}), report(0, 0, 0), api.OK)
	p.does(t, do(after(73)), report(0, 2, 2), api.OK)
	p.stands(t, 3000, 3000, 73, 73)
}

// P23.1, P23.2: a run of many packets, of which a step delivers a hundred thousand at once.
func TestLong(t *testing.T) {
	l, e := loop.New(with(func(c *api.Conf) { c.MSS, c.Init = 1, 1000 }), api.Path{Rate: 10000000, Delay: 100000, Jitter: 0, Buffer: 1 << 40})
	if e != api.OK {
		t.Fatal(e)
	}
	all := loop.Report{}
	for range 50000 {
		r, e := l.Do(loop.Step{After: 20, Write: 64})
		all = report(all.Delivered+r.Delivered, all.Sent+r.Sent, all.Kept+r.Kept)
		if c := l.Link().Count(); e != api.OK || r.Sent > 64 || c.Came != uint64(all.Sent) || c.Delivered != uint64(all.Delivered) || l.InFlight() != c.Queued+c.Under {
			t.Fatal(r, e, c, all)
		}
	}
	flight, waiting := l.InFlight(), l.Waiting()
	// all but those that went last are on their way
	if r, e := l.Do(after(101000)); e != api.OK || uint64(r.Delivered) != flight-64 || flight < 100000 || r.Sent != 64 || l.InFlight() != 128 || l.Waiting() != waiting-64 {
		t.Error(r, e, flight, waiting, l.InFlight(), l.Waiting())
	}
}
