package loop_test

import (
	"fmt"
	"math"
	"slices"
	"testing"

	"goit/api"
	"goit/bound"
	"goit/link"
	"goit/loop"
	"goit/rtt"
	"goit/sender"
)

const greatest = math.MaxUint64 // the greatest number

// to is a range, one a range of one number.
func to(from, to uint64) api.Range { return api.Range{From: from, To: to} }
func one(n uint64) api.Range       { return to(n, n) }

// call is one that may change a loop: Do, of steps, or one of its sender's own, Write(n), Tick(now), Ack(now, l...), which is promoted, or asked of what Sender tells (by).
type call struct {
	name   string
	steps  []loop.Step
	n, now uint64
	l      []api.Range
	by     bool
}

func do(l ...loop.Step) call              { return call{name: "Do", steps: l} }
func write(n uint64) call                 { return call{name: "Write", n: n} }
func tick(now uint64) call                { return call{name: "Tick", now: now} }
func ack(now uint64, l ...api.Range) call { return call{name: "Ack", now: now, l: l} }

// after is a step of so many microseconds, alone.
func after(n uint64) loop.Step { return loop.Step{After: n} }

func (c call) String() string {
	switch c.name {
	case "Do":
		return fmt.Sprint("Do ", c.steps)
	case "Write":
		return fmt.Sprint("Write ", c.n, " by Sender ", c.by)
	case "Tick":
		return fmt.Sprint("Tick ", c.now, " by Sender ", c.by)
	}
	return fmt.Sprint("Ack ", c.now, c.l, " by Sender ", c.by)
}

// answer is what a call answers.
type answer struct {
	report loop.Report
	errno  api.Errno
	gone   []api.Packet
}

func (a answer) same(b answer) bool {
	return a.report == b.report && a.errno == b.errno && slices.Equal(a.gone, b.gone)
}

// does makes a call on a loop.
func (c call) does(l *loop.Loop) (a answer) {
	switch {
	case c.name == "Do":
		a.report, a.errno = l.Do(c.steps...)
	case c.name == "Write" && c.by:
		a.errno = l.Sender().Write(c.n)
	case c.name == "Write":
		a.errno = l.Write(c.n)
	case c.name == "Tick" && c.by:
		a.gone, a.errno = l.Sender().Tick(c.now)
	case c.name == "Tick":
		a.gone, a.errno = l.Tick(c.now)
	case c.by:
		a.errno = l.Sender().Ack(c.now, c.l...)
	default:
		a.errno = l.Ack(c.now, c.l...)
	}
	return a
}

// moment is what Next tells.
type moment struct {
	at uint64
	ok bool
}

// ofSender is all that a sender tells, ofLink all that a link does.
type ofSender struct {
	waiting, flight, time, bytes     uint64
	past                             bool
	next                             moment
	state                            api.State
	cwnd, pace, quantum, least, best uint64
	limits                           bound.Bounds
}

type ofLink struct {
	time           uint64
	count          link.Count
	tokens, wasted uint64
	next           moment
}

func lookSender(s *sender.Sender) ofSender {
	at, ok := s.Next()
	e := s.Engine()
	return ofSender{s.Waiting(), s.InFlight(), s.Time(), s.Bytes(), s.Past(), moment{at, ok}, e.State(), e.Cwnd(), e.Pace(), e.Quantum(), e.Least(), e.Best(), e.Limits()}
}

func lookLink(k *link.Link) ofLink {
	x := ofLink{time: k.Time(), count: k.Count()}
	x.tokens, x.wasted = k.Tokens()
	x.next.at, x.next.ok = k.Next()
	return x
}

// told is all that a loop tells.
type told struct {
	sender ofSender
	link   ofLink
}

func look(l *loop.Loop) told { return told{lookSender(l.Sender()), lookLink(l.Link())} }

// promoted is what a loop tells of its sender by calls that are promoted.
func promoted(l *loop.Loop) ofSender {
	at, ok := l.Next()
	e := l.Engine()
	return ofSender{l.Waiting(), l.InFlight(), l.Time(), l.Bytes(), l.Past(), moment{at, ok}, e.State(), e.Cwnd(), e.Pace(), e.Quantum(), e.Least(), e.Best(), e.Limits()}
}

// flight is the bytes of packets.
func flight(l []api.Packet) (bytes uint64) {
	for _, x := range l {
		bytes += x.Size
	}
	return bytes
}

// plain is a loop as the words say it: a sender and a link that do not know of one another, between which this test carries what one of them tells. It keeps books of all packets.
type plain struct {
	setup  api.Conf
	path   api.Path
	sender *sender.Sender
	link   *link.Link
	books
}

// books are what became of bytes and packets, by what was told of them alone; which packets are out, and which of those are lost, is worked out here.
type books struct {
	setup               api.Conf
	written, acked      uint64 // bytes
	out                 []api.Packet
	top                 uint64 // one above the greatest number that was acknowledged
	estimate            *rtt.RTT
	lost                int          // packets
	came, dropped, over uint64       // bytes that were sent into the link, were dropped, were delivered
	inside              []api.Packet // those that are in the link
	all                 loop.Report  // of all steps
}

func start(t *testing.T, c api.Conf, p api.Path) *plain {
	t.Helper()
	s, e := sender.New(c)
	k, f := link.New(p)
	if e != api.OK || f != api.OK {
		t.Fatalf("%v, %v: %d, %d", c, p, e, f)
	}
	return &plain{c, p, s, k, books{setup: c, estimate: rtt.New()}}
}

func (p *plain) does(c call) (a answer) {
	switch c.name {
	case "Do":
		for _, x := range c.steps {
			if a.errno = p.step(x, &a.report); a.errno != api.OK {
				break
			}
		}
		p.all.Delivered += a.report.Delivered
		p.all.Sent += a.report.Sent
		p.all.Kept += a.report.Kept
	case "Write":
		a.errno = p.write(c.n)
	case "Tick":
		a.gone, a.errno = p.tick(c.now)
	default:
		a.errno = p.ack(c.now, c.l)
	}
	return a
}

func (p *plain) step(x loop.Step, r *loop.Report) api.Errno {
	if e := p.write(x.Write); e != api.OK {
		return e
	}
	now := p.link.Time() + min(x.After, greatest-p.link.Time())
	out, _ := p.link.Tick(now, x.Waste, x.Choices...)
	p.delivered(out)
	r.Delivered += len(out)
	if len(out) > 0 {
		var l []api.Range
		for _, x := range out {
			l = append(l, one(x.N))
		}
		if e := p.ack(now, l); e != api.OK {
			return e
		}
	}
	gone, e := p.tick(now)
	if e != api.OK {
		return e
	}
	r.Sent += len(gone)
	r.Kept += p.send(gone)
	return api.OK
}

func (p *plain) write(n uint64) api.Errno {
	e := p.sender.Write(n)
	if e == api.OK {
		p.written += n
	}
	return e
}

func (p *plain) tick(now uint64) ([]api.Packet, api.Errno) {
	gone, e := p.sender.Tick(now)
	if e == api.OK {
		p.losses(now)
		p.out = append(p.out, gone...)
	}
	return gone, e
}

func (p *plain) ack(now uint64, l []api.Range) api.Errno {
	e := p.sender.Ack(now, l...)
	if e == api.OK {
		p.acknowledged(now, l)
	}
	return e
}

// send sends packets one by one; how many are kept.
func (p *plain) send(l []api.Packet) (kept int) {
	for _, x := range l {
		p.came += x.Size
		if p.link.Send(x) == 1 {
			kept++
			p.inside = append(p.inside, x)
		} else {
			p.dropped += x.Size
		}
	}
	return kept
}

// delivered takes the first ones that are in the link from there.
func (b *books) delivered(l []api.Packet) {
	if len(l) > len(b.inside) || !slices.Equal(l, b.inside[:len(l)]) {
		panic("what is delivered is not what was sent first")
	}
	b.inside = b.inside[len(l):]
	b.over += flight(l)
}

// acknowledged takes packets of ranges, and those that are lost then, from what is out. Times, and delivered bytes, do not fall: the newest packet is that with the greatest number.
func (b *books) acknowledged(now uint64, l []api.Range) {
	acked := b.take(func(x api.Packet) bool {
		return slices.ContainsFunc(l, func(r api.Range) bool { return r.From <= x.N && x.N <= r.To })
	})
	if len(acked) == 0 {
		return
	}
	last := acked[len(acked)-1]
	b.top = max(b.top, last.N+1)
	b.acked += flight(acked)
	b.estimate.Put(now - last.Stamp.Sent)
	b.losses(now)
}

func (b *books) losses(now uint64) {
	delay, limit := b.estimate.Delay(), b.estimate.Limit()
	lost := b.take(func(x api.Packet) bool {
		return x.N+b.setup.Reorder < b.top || x.N+1 < b.top && x.Stamp.Sent+delay <= now || x.Stamp.Sent+limit <= now
	})
	b.lost += len(lost)
	if len(lost) > 0 && len(b.out) == 0 {
		b.estimate.Double()
	}
}

// take takes those away that are out and of which f tells so.
func (b *books) take(f func(x api.Packet) bool) (taken []api.Packet) {
	b.out = slices.DeleteFunc(b.out, func(x api.Packet) bool {
		gone := f(x)
		if gone {
			taken = append(taken, x)
		}
		return gone
	})
	return taken
}

// look is what it should tell.
func (p *plain) look() told { return told{lookSender(p.sender), lookLink(p.link)} }

// pair is a loop, and a plain one, which are told the same.
type pair struct {
	*loop.Loop
	plain *plain
	all   loop.Report // what all of its reports told together
	calls []call
	marks []mark
}

func newPair(t *testing.T, c api.Conf, p api.Path) *pair {
	t.Helper()
	l, e := loop.New(c, p)
	if l == nil || e != api.OK {
		t.Fatalf("New(%v, %v): %v, %d", c, p, l, e)
	}
	x := &pair{Loop: l, plain: start(t, c, p)}
	x.hold(t)
	return x
}

// last is the last calls.
func (p *pair) last() []call { return p.calls[max(0, len(p.calls)-9):] }

// fatal ends a test, and tells behind what.
func (p *pair) fatal(t *testing.T, l ...any) {
	t.Helper()
	t.Fatalf("%v, %v, behind %v of %d: %v", p.plain.setup, p.plain.path, p.last(), len(p.calls), fmt.Sprint(l...))
}

// hold holds what the loop tells against the plain one. It asks twice: asking changes nothing.
func (p *pair) hold(t *testing.T) {
	t.Helper()
	got, again, want := look(p.Loop), look(p.Loop), p.plain.look()
	if got != want || again != got {
		p.fatal(t, got, ", then ", again, ", not ", want)
	}
	if x := promoted(p.Loop); x != want.sender {
		p.fatal(t, "promoted: ", x, ", not ", want.sender)
	}
}

// do makes a call on both, and holds what is answered and told, also against P23.2, P1 to T5, and rules 2 and 3.
func (p *pair) do(t *testing.T, c call) answer {
	t.Helper()
	before := look(p.Loop)
	p.calls = append(p.calls, c)
	got, want := c.does(p.Loop), p.plain.does(c)
	if !got.same(want) {
		p.fatal(t, got, ", not ", want)
	}
	p.all.Delivered += got.report.Delivered
	p.all.Sent += got.report.Sent
	p.all.Kept += got.report.Kept
	p.hold(t)
	p.accounts(t)
	p.waits(t)
	if c.name == "Do" && len(c.steps) == 1 {
		p.allowed(t, before, got)
		p.ended(t, c.steps[0], before, got)
	}
	return got
}
