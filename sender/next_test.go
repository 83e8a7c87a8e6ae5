package sender_test

import (
	"slices"
	"testing"

	"goit/api"
	"goit/sender"
)

// P17.1 (S3: Next): what the pacer tells of the next packet's bytes; 0 and false, if nothing waits, or cwnd does not let them, or past the horizon.
func TestNext(t *testing.T) {
	p := newPair(t, setup())
	p.never(t)
	p.does(t, tick(0))
	p.never(t)
	p.does(t, write(1))
	p.will(t, 1)
	p.does(t, write(41))
	p.will(t, 2) // 42 bytes at 41550000 a second
	p.does(t, write(1457))
	p.will(t, 37)
	p.does(t, write(1))
	p.will(t, 37)
	p.does(t, write(api.MaxBytes-1500)) // the packet after that one is no matter
	p.will(t, 37)
	p.does(t, ack(30)) // the pacer's time is that of its tick
	p.will(t, 37)
	p.does(t, ack(50))
	p.will(t, 37)
	p.does(t, tick(50))
	p.will(t, 73)
	p.fails(t, write(1), api.ErrHorizon)
	p.never(t)

	// cwnd opens with an acknowledgement, and the pacer's terms stay till a tick
	p = newPair(t, setup())
	p.does(t, write(30000), tick(37))
	for at := uint64(73); p.InFlight() < 15000; at = p.Time() + 36 {
		p.does(t, tick(at+1))
	}
	p.never(t)
	at, _ := p.plain.pacer.Next(1500)
	p.does(t, ack(5000, one(0)))
	p.will(t, at)
	p.does(t, ack(api.Horizon))
	p.will(t, at)
	p.fails(t, ack(api.Horizon+1), api.ErrHorizon)
	p.never(t)

	// above the horizon, too
	p = newPair(t, setup())
	p.does(t, tick(api.Horizon-1), write(41550+1500), tick(api.Horizon-1), tick(api.Horizon))
	p.never(t) // cwnd is full
	p = newPair(t, with(func(c *api.Conf) { c.Init = 1000 }))
	p.does(t, write(200000), tick(api.Horizon), tick(api.Horizon))
	p.will(t, api.Horizon+1)
	p.fails(t, tick(api.Horizon+1), api.ErrHorizon)
	p.never(t)
}

// P17.1 (S3): what is read, behind calls of all kinds.
func TestReadings(t *testing.T) {
	p := newPair(t, setup())
	e := p.Engine()
	for _, c := range []struct {
		call
		waiting, flight, time uint64
	}{
		{write(20000), 20000, 0, 0},
		{tick(1000), 5000, 15000, 1000},
		{ack(51000, to(0, 1)), 5000, 12000, 51000},
		{write(7), 5007, 12000, 51000},
		{ack(52000, one(9)), 5007 + 7500, 12000 - 9000, 52000},
		{ack(53000), 12507, 3000, 53000},
		{ack(54000, to(7, 8)), 12507, 0, 54000},
		{tick(55000), 9507, 3000, 55000},
	} {
		p.does(t, c.call)
		p.stands(t, c.waiting, c.flight)
		if p.Time() != c.time || p.Past() || p.Engine() != e {
			t.Fatalf("%v: at %d, past: %v", c.call, p.Time(), p.Past())
		}
	}
	p.fails(t, tick(greatest), api.ErrHorizon)
	if p.Time() != 55000 || !p.Past() || p.Engine() != e {
		t.Fatalf("at %d, past: %v", p.Time(), p.Past())
	}
}

// P1, DOC.md, rule 8: every call on a nil sender.
func TestNil(t *testing.T) {
	var s *sender.Sender
	for _, n := range []uint64{0, 1, api.Horizon + 1, api.MaxBytes + 1, greatest} {
		if e := s.Write(n); e != api.ErrArg {
			t.Errorf("Write: %d", e)
		}
		if l, e := s.Tick(n); len(l) > 0 || e != api.ErrArg {
			t.Errorf("Tick: %v, %d", l, e)
		}
		for _, l := range [][]api.Range{nil, {one(n)}, {to(1, 0)}} {
			if e := s.Ack(n, l...); e != api.ErrArg {
				t.Errorf("Ack: %d", e)
			}
		}
	}
	if at, ok := s.Next(); at != 0 || ok {
		t.Errorf("Next: %d, %v", at, ok)
	}
	if s.Waiting() != 0 || s.InFlight() != 0 || s.Time() != 0 || s.Past() || s.Engine() != nil {
		t.Error("a nil sender tells something")
	}
}

// P17.1, P1: numbers at both ends, each by each, on setups at both ends.
func TestEnds(t *testing.T) {
	ends := []uint64{0, 1, api.Horizon - 1, api.Horizon, api.Horizon + 1, api.MaxBytes, api.MaxBytes + 1, 1 << 63, greatest - 1, greatest}
	for _, c := range []api.Conf{
		{MSS: 1, Init: 4, Reorder: 1, Window: 1, ProbeLen: 1, Loss: 0},
		{MSS: 65535, Init: 1000, Reorder: 100, Window: 1 << 40, ProbeLen: 1 << 40, Loss: 1000},
		{MSS: 1, Init: 1000, Reorder: 1, Window: 1 << 40, ProbeLen: 1, Loss: 1000},
		{MSS: 65535, Init: 4, Reorder: 100, Window: 1, ProbeLen: 1 << 40, Loss: 0},
	} {
		for _, a := range ends {
			for _, b := range ends {
				p := newPair(t, c)
				for _, x := range []call{write(a), tick(b), ack(b, one(0)), write(b), tick(a), tick(b), ack(a, to(a, b)), ack(b, to(0, a)), tick(api.Horizon), ack(api.Horizon, to(0, b)), tick(a)} {
					p.do(t, x)
				}
			}
		}
	}
}

// P2: senders beside one another, of one setup, and of others, in turns: each answers as it does alone.
func TestBeside(t *testing.T) {
	var l []call
	p := newPair(t, setup())
	m := mixer(7)
	for range 300 {
		c := m.call(p.plain, scales()[1])
		p.do(t, c)
		l = append(l, c)
	}
	small := with(func(c *api.Conf) { c.MSS, c.Init = 100, 40 })
	pairs := []*pair{newPair(t, setup()), newPair(t, small), newPair(t, setup()), newPair(t, small)}
	for i := range l {
		for j, q := range pairs {
			if j < 2 {
				q.do(t, l[i])
			} else {
				q.do(t, l[len(l)-1-i])
			}
		}
	}
	for i, q := range []*pair{pairs[0], pairs[1]} {
		if other := q.again(); look(other) != look(q.Sender) {
			t.Errorf("%d: %v, not %v", i, look(q.Sender), look(other))
		}
	}
	if look(p.Sender) != look(pairs[0].Sender) || slices.ContainsFunc(pairs[1:], func(q *pair) bool { return look(q.Sender) == look(p.Sender) }) {
		t.Error("they are not told apart")
	}
}
