package whole

import (
	"fmt"
	"math"
	"testing"

	"goit/api"
	"goit/conf"
	"goit/link"
	"goit/loop"
	"goit/script"
	"goit/sender"
)

// scale is a setup, a path, and how long steps are, and how much is written in one, at most.
type scale struct {
	setup         api.Conf
	path          api.Path
	length, bytes uint64
}

func scales() []scale {
	usual := conf.Default()
	brief := api.Conf{MSS: 1500, Init: 10, Reorder: 3, Window: 400000, ProbeLen: 20000, Loss: 300}
	strict := api.Conf{MSS: 1500, Init: 4, Reorder: 1, Window: 10000000, ProbeLen: 200000, Loss: 0}
	least := api.Conf{MSS: 1, Init: 4, Reorder: 1, Window: 1, ProbeLen: 1, Loss: 0}
	most := api.Conf{MSS: 65535, Init: 1000, Reorder: 100, Window: 1 << 40, ProbeLen: 1 << 40, Loss: 1000}
	return []scale{
		{usual, api.Path{Rate: 1500000, Delay: 10000, Jitter: 500, Buffer: 4500}, 1000, 1500},
		{usual, api.Path{Rate: 1500000, Delay: 20000, Jitter: 5000, Buffer: 60000}, 2000, 4000},
		{usual, api.Path{Rate: 300000, Delay: 1000, Jitter: 0, Buffer: 3000}, 20000, 9000},
		{brief, api.Path{Rate: 1500000, Delay: 10000, Jitter: 100, Buffer: 60000}, 3000, 9000},
		{brief, api.Path{Rate: 6000000, Delay: 4000, Jitter: 30000, Buffer: 20000}, 9000, 90000},
		{strict, api.Path{Rate: 1 << 20, Delay: 0, Jitter: 9, Buffer: 7000}, 9000, 9000},
		{least, api.Path{Rate: 1000000, Delay: 3, Jitter: 2, Buffer: 9}, 9, 9},
		{least, api.Path{Rate: 1, Delay: 0, Jitter: 0, Buffer: 1}, 1000000, 5},
		{most, api.Path{Rate: 1 << 26, Delay: 30000, Jitter: 10000, Buffer: 1 << 20}, 30000, 1 << 30},
		{most, api.Path{Rate: 1 << 40, Delay: 100, Jitter: 100, Buffer: 1 << 43}, 1000, 1 << 40},
	}
}

// choices are some, of which some are above a jitter.
func (m *mixer) choices(jitter uint64) (l []uint64) {
	for range m.below(4) {
		l = append(l, m.number(2*jitter+1))
	}
	return l
}

// ranges are some, of packets that are out, or near these.
func (m *mixer) ranges(b *books) (l []api.Range) {
	for range 1 + m.below(3) {
		x := m.below(9)
		if len(b.out) > 0 {
			x = b.out[m.below(uint64(len(b.out)))].N
		}
		l = append(l, api.Range{From: x - min(x, m.number(2)), To: x + m.number(4)})
	}
	return l
}

// whole is a sender and a link, between which this test carries packets as it likes; without a link, if there is no path.
type whole struct {
	watch
	books
	sender *sender.Sender
	link   *link.Link
	inside []api.Packet // those that are in the link
	kept   []api.Range  // of packets that were delivered, and are not acknowledged yet
}

func newWhole(t *testing.T, c api.Conf, p api.Path) *whole {
	t.Helper()
	s, e := sender.New(c)
	w := &whole{watch: watch{setup: c, path: p}, books: newBooks(c), sender: s}
	if e == api.OK && p != (api.Path{}) {
		w.link, e = link.New(p)
	}
	if e != api.OK {
		t.Fatalf("%v, %v: %d", c, p, e)
	}
	return w
}

// write writes.
func (w *whole) write(t *testing.T, n uint64) {
	t.Helper()
	if e := w.sender.Write(n); e != api.OK {
		t.Fatal(e)
	}
	w.written += n
	w.books.hold(t, w.sender.Waiting(), w.sender.InFlight())
}

// ack acknowledges ranges, at a time.
func (w *whole) ack(t *testing.T, now uint64, l ...api.Range) {
	t.Helper()
	if e := w.sender.Ack(now, l...); e != api.OK {
		t.Fatal(e)
	}
	w.acknowledged(now, l)
	w.books.hold(t, w.sender.Waiting(), w.sender.InFlight())
}

// tick lets time go on, and what goes into the link.
func (w *whole) tick(t *testing.T, now uint64) {
	t.Helper()
	gone, e := w.sender.Tick(now)
	if e != api.OK {
		t.Fatal(e)
	}
	w.ticked(now, gone)
	w.books.hold(t, w.sender.Waiting(), w.sender.InFlight())
	r := reading{time: now, waiting: w.sender.Waiting(), flight: w.sender.InFlight(), cwnd: w.sender.Engine().Cwnd(), pace: w.sender.Engine().Pace()}
	if w.link != nil {
		for _, x := range gone {
			if w.link.Send(x) == 1 {
				w.inside = append(w.inside, x)
			}
		}
		r.counts(w.link.Count())
		if r.queued+r.under != size(w.inside) {
			t.Fatal(r, w.inside)
		}
	}
	w.step(t, r, size(gone))
}

// carry lets the link go on; of what it delivers some is kept back.
func (w *whole) carry(t *testing.T, m *mixer, now uint64) {
	t.Helper()
	out, e := w.link.Tick(now, m.number(math.MaxUint64-1), m.choices(w.path.Jitter)...)
	if e != api.OK || len(out) > len(w.inside) {
		t.Fatal(e, len(out))
	}
	for i, x := range out {
		if x != w.inside[i] {
			t.Fatal(x, w.inside[i])
		}
		w.kept = append(w.kept, api.Range{From: x.N, To: x.N})
	}
	w.inside = w.inside[len(out):]
	if n := m.below(uint64(len(w.kept)) + 1); n > 0 && m.below(4) > 0 {
		w.ack(t, now, w.kept[:n]...)
		w.kept = w.kept[n:]
	}
}

// counts takes a link's.
func (r *reading) counts(c link.Count) {
	r.came, r.dropped, r.queued, r.served, r.under, r.delivered = c.Came, c.Dropped, c.Queued, c.Served, c.Under, c.Delivered
}

// later is a time, of some scale, which neither of both is behind.
func (w *whole) later(m *mixer, length uint64) uint64 {
	now := max(w.sender.Time(), w.link.Time())
	if at, ok := w.sender.Next(); ok && m.below(3) == 0 && at >= now && at-now < length*1000 {
		return at
	}
	return now + m.number(length)
}

// T1, T3, T5: senders, whatever is written and acknowledged: of no path, and of a link, of which acknowledgements come late, or are made up.
func TestSenders(t *testing.T) {
	lost, acked := 0, uint64(0)
	for i, s := range scales() {
		for round, p := range []api.Path{{}, {}, s.path, s.path} {
			m := mixer(10*uint64(i) + uint64(round))
			w := newWhole(t, s.setup, p)
			for range 1000 {
				if m.below(2) == 0 && w.written+s.bytes <= api.MaxBytes {
					w.write(t, m.number(s.bytes))
				}
				now := w.later(&m, s.length)
				if p != (api.Path{}) {
					w.carry(t, &m, now)
				}
				if m.below(4) == 0 || p == (api.Path{}) && m.below(2) == 0 {
					w.ack(t, now, m.ranges(&w.books)...)
				}
				if m.below(5) > 0 {
					w.tick(t, now)
				}
			}
			lost, acked = lost+w.lost, acked+w.acked
			stops(t, w.sender)
		}
	}
	if lost < 1000 || acked == 0 {
		t.Error(lost, acked)
	}
}

// stops lets a sender go past the horizon: nothing goes any more (T1).
func stops(t *testing.T, s *sender.Sender) {
	t.Helper()
	waiting, flight := s.Waiting(), s.InFlight()
	for _, now := range []uint64{api.Horizon + 1, s.Time(), s.Time() + 1000, 0, api.Horizon} {
		l, e := s.Tick(now)
		_, ok := s.Next()
		if len(l) > 0 || e != api.ErrHorizon || s.Write(1) != api.ErrHorizon || s.Ack(now, api.Range{To: 9}) != api.ErrHorizon || ok || s.Waiting() != waiting || s.InFlight() != flight {
			t.Fatal(l, e, s.Waiting(), s.InFlight())
		}
	}
}

// T3, T4, T5: loops, whatever is written, wasted and chosen.
func TestLoops(t *testing.T) {
	dropped, delivered := uint64(0), uint64(0)
	for i, s := range scales() {
		for round := range uint64(3) {
			m := mixer(1000*uint64(i) + round)
			l, e := loop.New(s.setup, s.path)
			if e != api.OK {
				t.Fatal(s, e)
			}
			w, f := watch{setup: s.setup, path: s.path}, flow{}
			for range 1000 {
				x := loop.Step{After: m.number(s.length), Waste: m.number(math.MaxUint64 - 1), Choices: m.choices(s.path.Jitter)}
				if m.below(2) == 0 && f.written+s.bytes <= api.MaxBytes {
					x.Write = m.number(s.bytes)
				}
				if _, e := l.Do(x); e != api.OK {
					t.Fatal(s, x, e)
				}
				r := reading{time: l.Link().Time(), waiting: l.Waiting(), flight: l.InFlight(), cwnd: l.Engine().Cwnd(), pace: l.Engine().Pace()}
				r.counts(l.Link().Count())
				f.hold(t, r, w.last, x.Write)
				w.step(t, r, r.came-w.last.came)
			}
			dropped, delivered = dropped+w.last.dropped, delivered+w.last.delivered
		}
	}
	if dropped == 0 || delivered == 0 {
		t.Error(dropped, delivered)
	}
}

// flow is bytes that were written, and acknowledged, from outside.
type flow struct{ written, acked uint64 }

// hold holds a reading, behind another one, against T5: what was written, and does not wait, nor is in flight, was acknowledged; in a step that is more by what was delivered in it at most.
func (f *flow) hold(t *testing.T, r, last reading, write uint64) {
	t.Helper()
	f.written += write
	acked := f.written - r.waiting - r.flight
	if r.waiting+r.flight > f.written || acked < f.acked || acked-f.acked > r.delivered-last.delivered {
		t.Fatal(f, acked, r, last)
	}
	f.acked = acked
}

// T3, T4, T5, P24.1: desks, by what their lines tell alone.
func TestDesks(t *testing.T) {
	for i, s := range scales() {
		m := mixer(77 + uint64(i))
		d := script.New()
		text, e := conf.Print(s.setup)
		lines(t, d, text, fmt.Sprint("path ", s.path.Rate, " ", s.path.Delay, " ", s.path.Jitter, " ", s.path.Buffer))
		w, f := watch{setup: s.setup, path: s.path}, flow{}
		for range 1000 {
			write := uint64(0)
			if m.below(2) == 0 && f.written+s.bytes <= api.MaxBytes {
				write = m.number(s.bytes)
			}
			line := fmt.Sprint("step ", m.number(s.length), " ", write, " ", m.number(math.MaxUint64-1))
			for _, n := range m.choices(s.path.Jitter) {
				line += fmt.Sprint(" ", n)
			}
			lines(t, d, line)
			r := read(t, d)
			f.hold(t, r, w.last, write)
			w.step(t, r, r.came-w.last.came)
		}
		if e != api.OK || w.last.came == 0 {
			t.Error(s, e, w.last)
		}
	}
}

// lines says lines that have no error; what the last one tells.
func lines(t *testing.T, d *script.Desk, l ...string) string {
	t.Helper()
	told, e := d.Lines(l...)
	if e != api.OK || len(told) != len(l) {
		t.Fatal(l, told, e)
	}
	return told[len(told)-1]
}

// read is a reading, by lines.
func read(t *testing.T, d *script.Desk) (r reading) {
	t.Helper()
	var state string
	var best, least uint64
	for _, x := range []struct {
		line, form string
		into       []any
	}{
		{"bytes", "waiting %d flight %d time %d", []any{&r.waiting, &r.flight, &r.time}},
		{"state", "%s cwnd %d pace %d best %d least %d", []any{&state, &r.cwnd, &r.pace, &best, &least}},
		{"link", "came %d dropped %d queued %d served %d under %d delivered %d", []any{&r.came, &r.dropped, &r.queued, &r.served, &r.under, &r.delivered}},
	} {
		told := lines(t, d, x.line)
		if n, e := fmt.Sscanf(told, x.form, x.into...); n != len(x.into) || e != nil {
			t.Fatal(x.line, told, e)
		}
	}
	return r
}

// T3 (nobody is stuck), T5: on a path with room for a packet all that is written is acknowledged, sooner or later, whatever is dropped.
func TestNobodyStuck(t *testing.T) {
	for _, path := range []string{"path 1500000 10000 0 60000", "path 1500000 10000 500 1500", "path 100000 50000 20000 3000", "path 1000000000 100 0 6000", "path 3000 300000 0 1500"} {
		d := script.New()
		lines(t, d, path, "step 0 100000")
		steps := 0
		for r := read(t, d); r.waiting+r.flight > 0; r = read(t, d) {
			lines(t, d, "run 10 1000")
			if steps++; steps > 100000 {
				t.Fatal(path, r)
			}
		}
		if r := read(t, d); r.delivered < 100000 {
			t.Error(path, r)
		}
	}
}
