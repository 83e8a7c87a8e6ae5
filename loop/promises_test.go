package loop_test

import (
	"math/big"
	"testing"

	"goit/api"
	"goit/loop"
)

// accounts holds what the loop tells against P23.2, and T5: bytes, and packets, by its reports and its readings.
func (p *pair) accounts(t *testing.T) {
	t.Helper()
	b, c := &p.plain.books, p.Link().Count()
	if c.Came != c.Dropped+c.Queued+c.Served || c.Served != c.Under+c.Delivered {
		p.fatal(t, "what was sent is not all there: ", c)
	}
	if c.Came != b.came || c.Dropped != b.dropped || c.Queued+c.Under != flight(b.inside) || c.Delivered != b.over {
		p.fatal(t, c, ", with ", b.came, " sent, ", b.dropped, " dropped, ", b.inside, " inside, ", b.over, " delivered")
	}
	if p.all != b.all || p.all.Kept-p.all.Delivered != len(b.inside) || p.all.Sent < p.all.Kept {
		p.fatal(t, "reports of ", p.all, ", with ", len(b.inside), " inside")
	}
	if c.Queued > p.plain.path.Buffer {
		p.fatal(t, "a queue of ", c.Queued)
	}
	if p.Bytes() != b.written || p.InFlight() != flight(b.out) || p.Waiting()+p.InFlight()+b.acked != b.written {
		p.fatal(t, b.written, " written, ", p.Waiting(), " waiting, ", p.InFlight(), " in flight, ", b.acked, " acknowledged, out ", b.out)
	}
}

// allowed holds a step against P23.2, and T3, by what the link counts, and what the engine asks for behind it.
func (p *pair) allowed(t *testing.T, before told, a answer) {
	t.Helper()
	e, went := p.Engine(), p.Link().Count().Came-before.link.count.Came
	if went > e.Quantum() {
		p.fatal(t, went, " bytes went, with a quantum of ", e.Quantum())
	}
	if went > 0 && p.InFlight() > e.Cwnd() {
		p.fatal(t, p.InFlight(), " bytes in flight, with a cwnd of ", e.Cwnd())
	}
	if (went > 0) != (a.report.Sent > 0) || a.report.Kept > a.report.Sent {
		p.fatal(t, went, " bytes went: ", a)
	}
}

// ended holds a step that ended with an error against what it may have changed: what was written waits, the link has ticked, and all else is as it was, but that the sender may be past now.
func (p *pair) ended(t *testing.T, x loop.Step, before told, a answer) {
	t.Helper()
	if a.errno == api.OK {
		if p.Time() != p.Link().Time() || p.Past() {
			p.fatal(t, "a sender at ", p.Time(), ", a link at ", p.Link().Time())
		}
		return
	}
	after := look(p.Loop)
	if a.report.Sent != 0 || a.report.Kept != 0 || after.sender.past != (a.errno == api.ErrHorizon) || before.sender.past && a.report.Delivered != 0 {
		p.fatal(t, a, ", past ", after.sender.past)
	}
	if before.sender.past && after.link != before.link {
		p.fatal(t, "past, and the link has ticked: ", after.link, ", not ", before.link)
	}
	s := before.sender
	if after.sender.bytes != s.bytes {
		s.bytes, s.waiting = s.bytes+x.Write, s.waiting+x.Write
	}
	s.past, s.next = after.sender.past, after.sender.next
	if after.sender != s {
		p.fatal(t, a, ": ", after.sender, ", not ", s)
	}
}

// mark is what was in the queue at some time, and the bytes that are served once all of it is.
type mark struct{ time, queued, served uint64 }

// waits holds the link against T4: all that was in the queue, at any of the last times, is served as soon as the rate has made up for its bytes.
func (p *pair) waits(t *testing.T) {
	t.Helper()
	now, c := p.Link().Time(), p.Link().Count()
	for _, m := range p.marks {
		earned := new(big.Int).Mul(new(big.Int).SetUint64(p.plain.path.Rate), new(big.Int).SetUint64(now-m.time))
		needs := new(big.Int).Mul(new(big.Int).SetUint64(m.queued), big.NewInt(1000000))
		if needs.IsUint64() && earned.Cmp(needs) >= 0 && c.Served < m.served {
			p.fatal(t, m, ", and ", c, " at ", now)
		}
	}
	p.marks = append(p.marks, mark{now, c.Queued, c.Served + c.Queued})
	p.marks = p.marks[max(0, len(p.marks)-20):]
}
