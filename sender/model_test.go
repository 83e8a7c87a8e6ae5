package sender_test

import (
	"math"
	"math/big"
	"slices"
	"testing"

	"goit/api"
	"goit/bbr"
	"goit/bound"
	"goit/pacer"
	"goit/rate"
	"goit/rtt"
	"goit/sender"
)

const greatest = math.MaxUint64 // the greatest number

// to is a range, one a range of one number.
func to(from, to uint64) api.Range { return api.Range{From: from, To: to} }
func one(n uint64) api.Range       { return to(n, n) }

// call is one that may change a sender: Write(n), Tick(now), or Ack(now, l...).
type call struct {
	name   string
	n, now uint64
	l      []api.Range
}

func write(n uint64) call                 { return call{name: "Write", n: n} }
func tick(now uint64) call                { return call{name: "Tick", now: now} }
func ack(now uint64, l ...api.Range) call { return call{name: "Ack", now: now, l: l} }

// answer is what a call answers.
type answer struct {
	errno api.Errno
	gone  []api.Packet
}

func (a answer) same(b answer) bool { return a.errno == b.errno && slices.Equal(a.gone, b.gone) }

func (c call) do(s *sender.Sender) (a answer) {
	switch c.name {
	case "Write":
		a.errno = s.Write(c.n)
	case "Tick":
		a.gone, a.errno = s.Tick(c.now)
	default:
		a.errno = s.Ack(c.now, c.l...)
	}
	return a
}

// then is what Next tells.
type then struct {
	at uint64
	ok bool
}

// engine is all that an engine tells.
type engine struct {
	state                            api.State
	cwnd, pace, quantum, least, best uint64
	limits                           bound.Bounds
	full                             bool
}

func read(e *bbr.Engine) engine {
	return engine{e.State(), e.Cwnd(), e.Pace(), e.Quantum(), e.Least(), e.Best(), e.Limits(), e.Full()}
}

// told is all that a sender tells.
type told struct {
	waiting, flight, time uint64
	past                  bool
	next                  then
	engine                engine
}

func look(s *sender.Sender) told {
	at, ok := s.Next()
	return told{s.Waiting(), s.InFlight(), s.Time(), s.Past(), then{at, ok}, read(s.Engine())}
}

// plain is a sender as the words say it: its packets are a list, and its numbers those of this test. It has an estimate, a sampler, an engine, and a pacer, which are the project's, and notes what that engine was told.
type plain struct {
	setup       api.Conf
	time, bytes uint64
	past        bool
	waiting     uint64
	acked       uint64 // bytes
	out         []api.Packet
	number, top uint64 // of the next one, and one above the greatest that was acknowledged
	estimate    *rtt.RTT
	sampler     *rate.Sampler
	engine      *bbr.Engine
	pacer       *pacer.Pacer
	events      []bbr.Event
	lost        [3]int // how many were lost by reorder, by delay, by limit
	doubled     int    // how often the estimate was
}

func start(c api.Conf) *plain {
	e, _ := bbr.New(c)
	return &plain{setup: c, estimate: rtt.New(), sampler: rate.New(), engine: e, pacer: pacer.New()}
}

// flight is the bytes of packets.
func flight(l []api.Packet) (bytes uint64) {
	for _, x := range l {
		bytes += x.Size
	}
	return bytes
}

func (p *plain) do(c call) (a answer) {
	switch c.name {
	case "Write":
		a.errno = p.write(c.n)
	case "Tick":
		a = p.tick(c.now)
	default:
		a.errno = p.ack(c.now, c.l)
	}
	return a
}

func (p *plain) write(n uint64) api.Errno {
	if p.past || n > api.MaxBytes-p.bytes {
		p.past = true
		return api.ErrHorizon
	}
	p.bytes += n
	p.waiting += n
	return api.OK
}

// to is the clock's.
func (p *plain) to(now uint64) api.Errno {
	switch {
	case p.past:
		return api.ErrHorizon
	case now < p.time:
		return api.ErrRange
	case now > api.Horizon:
		p.past = true
		return api.ErrHorizon
	}
	p.time = now
	return api.OK
}

func (p *plain) tick(now uint64) (a answer) {
	if a.errno = p.to(now); a.errno != api.OK {
		return a
	}
	if lost := p.losses(); len(lost) > 0 {
		p.on(bbr.Event{Now: now, Delivered: p.sampler.Delivered(), Lost: flight(lost), InFlight: flight(p.out)})
	}
	p.pacer.Tick(now, p.engine.Pace(), p.engine.Quantum())
	for p.waiting > 0 {
		size := min(p.setup.MSS, p.waiting)
		if size+flight(p.out) > p.engine.Cwnd() || !p.pacer.Take(size) {
			break
		}
		x := api.Packet{N: p.number, Size: size, Stamp: p.sampler.Stamp(now, flight(p.out))}
		p.waiting -= size
		p.number++
		p.out = append(p.out, x)
		a.gone = append(a.gone, x)
	}
	if p.waiting == 0 {
		p.sampler.Limit(flight(p.out))
	}
	return a
}

func (p *plain) ack(now uint64, l []api.Range) api.Errno {
	switch {
	case p.past:
		return api.ErrHorizon
	case now < p.time:
		return api.ErrRange
	case slices.ContainsFunc(l, func(r api.Range) bool { return r.From > r.To || r.To == greatest }):
		return api.ErrArg
	}
	if e := p.to(now); e != api.OK {
		return e
	}
	acked := p.take(func(x api.Packet) bool {
		return slices.ContainsFunc(l, func(r api.Range) bool { return r.From <= x.N && x.N <= r.To })
	})
	if len(acked) == 0 {
		return api.OK
	}
	p.top = max(p.top, acked[len(acked)-1].N+1)
	p.acked += flight(acked)
	sample, _ := p.sampler.Ack(now, acked...)
	p.estimate.Put(sample.RTT)
	lost := p.losses()
	p.on(bbr.Event{Now: now, Sample: sample, Some: true, Delivered: p.acked, Acked: flight(acked), Lost: flight(lost), InFlight: flight(p.out)})
	return api.OK
}

func (p *plain) on(x bbr.Event) {
	p.events = append(p.events, x)
	p.engine.On(x)
}

// losses are those that are lost at its time; their bytes wait again.
func (p *plain) losses() []api.Packet {
	delay, limit := p.estimate.Delay(), p.estimate.Limit()
	lost := p.take(func(x api.Packet) bool {
		switch {
		case x.N+p.setup.Reorder < p.top:
			p.lost[0]++
		case x.N+1 < p.top && x.Stamp.Sent+delay <= p.time:
			p.lost[1]++
		case x.Stamp.Sent+limit <= p.time:
			p.lost[2]++
		default:
			return false
		}
		return true
	})
	p.waiting += flight(lost)
	if len(lost) > 0 && len(p.out) == 0 {
		p.doubled++
		p.estimate.Double()
	}
	return lost
}

// take takes those away that are out and of which f tells so.
func (p *plain) take(f func(x api.Packet) bool) (taken []api.Packet) {
	p.out = slices.DeleteFunc(p.out, func(x api.Packet) bool {
		gone := f(x)
		if gone {
			taken = append(taken, x)
		}
		return gone
	})
	return taken
}

func (p *plain) next() then {
	size := min(p.setup.MSS, p.waiting)
	if p.past || p.waiting == 0 || size+flight(p.out) > p.engine.Cwnd() {
		return then{}
	}
	at, ok := p.pacer.Next(size)
	return then{at, ok}
}

// look is what it should tell.
func (p *plain) look() told {
	return told{p.waiting, flight(p.out), p.time, p.past, p.next(), read(p.engine)}
}

// pair is a sender, and a plain one, which are told the same.
type pair struct {
	*sender.Sender
	plain  *plain
	calls  []call
	ticked bool // the last call was a tick, without an error
	envelope
}

// envelope is T3's: by how much what went is above what each tick's pace earned, and how much that may be: behind each tick a quantum more, as it was then. Both are millionths of a byte, without a bound.
type envelope struct {
	now         uint64
	above, most *big.Int
}

func millionths(a, b uint64) *big.Int {
	return new(big.Int).Mul(new(big.Int).SetUint64(a), new(big.Int).SetUint64(b))
}

// holds takes a tick, and tells whether what went is in the envelope.
func (e *envelope) holds(now, pace, quantum, went uint64) bool {
	e.above.Sub(e.above, millionths(pace, now-e.now))
	e.above.Add(e.above, millionths(went, 1000000))
	e.now = now
	ok := e.above.Cmp(e.most) <= 0
	if roof := millionths(quantum, 1000000); e.most.Cmp(roof.Add(roof, e.above)) > 0 {
		e.most = roof
	}
	return ok
}

func newPair(t *testing.T, c api.Conf) *pair {
	t.Helper()
	s, e := sender.New(c)
	if s == nil || e != api.OK {
		t.Fatalf("New(%v): %v, %d", c, s, e)
	}
	p := &pair{Sender: s, plain: start(c), envelope: envelope{above: new(big.Int), most: new(big.Int)}}
	p.hold(t)
	return p
}

// hold holds what the sender tells against the plain one. It asks twice: asking changes nothing.
func (p *pair) hold(t *testing.T) {
	t.Helper()
	got, again, want := look(p.Sender), look(p.Sender), p.plain.look()
	if got != want || again != got {
		t.Fatalf("%v, behind %v of %d: %v, then %v, not %v", p.plain.setup, p.last(), len(p.calls), got, again, want)
	}
}

// last is the last calls.
func (p *pair) last() []call { return p.calls[max(0, len(p.calls)-9):] }

// do makes a call on both, and holds what is answered and told, also against P17.2, P17.4, T3, and rule 3.
func (p *pair) do(t *testing.T, c call) answer {
	t.Helper()
	before := look(p.Sender)
	p.calls = append(p.calls, c)
	got, want := c.do(p.Sender), p.plain.do(c)
	if !got.same(want) {
		t.Fatalf("%v, at %v of %d: %v, not %v", p.plain.setup, p.last(), len(p.calls), got, want)
	}
	p.ticked = c.name == "Tick" && got.errno == api.OK
	p.hold(t)
	p.allowed(t, got)
	p.kept(t)
	p.unchanged(t, before, got)
	return got
}

// allowed holds what went in a call against P17.2, and T3, by what the engine asks for behind it.
func (p *pair) allowed(t *testing.T, a answer) {
	t.Helper()
	e := p.Engine()
	if flight(a.gone) > e.Quantum() {
		t.Fatalf("%v, at %v: %d bytes went, with a quantum of %d", p.plain.setup, p.last(), flight(a.gone), e.Quantum())
	}
	if len(a.gone) > 0 && p.InFlight() > e.Cwnd() {
		t.Fatalf("%v, at %v: %d in flight, with a cwnd of %d", p.plain.setup, p.last(), p.InFlight(), e.Cwnd())
	}
	if p.ticked && !p.holds(p.Time(), e.Pace(), e.Quantum(), flight(a.gone)) {
		t.Fatalf("%v, at %v: above the envelope: %d, of %d", p.plain.setup, p.last(), p.above, p.most)
	}
	if e.Cwnd() < api.MinCwnd*p.plain.setup.MSS {
		t.Fatalf("%v, at %v: a cwnd of %d", p.plain.setup, p.last(), e.Cwnd())
	}
}

// kept holds what the sender tells against P17.4: what was written is the clock's bytes.
func (p *pair) kept(t *testing.T) {
	t.Helper()
	if sum := p.Waiting() + p.InFlight() + p.plain.acked; p.Bytes() != sum || p.plain.bytes != sum {
		t.Fatalf("%v, behind %v: %d written, %d known of", p.plain.setup, p.last(), p.plain.bytes, sum)
	}
}

// unchanged holds a call that answers an error against rule 3: nothing is changed, but that the clock may be past now.
func (p *pair) unchanged(t *testing.T, before told, a answer) {
	t.Helper()
	if a.errno == api.OK {
		return
	}
	after := look(p.Sender)
	if after.past {
		before.past, before.next = true, then{}
	}
	if after != before || (a.errno == api.ErrHorizon) != after.past {
		t.Fatalf("%v, at %v: error %d, %v, not %v", p.plain.setup, p.last(), a.errno, after, before)
	}
}

// goes holds a sender against P17.3, if that speaks of it: at the time that is told something goes, and nothing a microsecond ahead, if it has to wait. Each is tried with another one, behind the same calls. A time above the horizon is none at which anything can go.
func (p *pair) goes(t *testing.T) {
	t.Helper()
	if !p.ticked || p.Waiting() == 0 || p.InFlight() > 0 {
		return
	}
	at, ok := p.Next()
	if !ok || at < p.Time() {
		t.Fatalf("%v, behind %v: stuck: %d %v", p.plain.setup, p.last(), at, ok)
	}
	if at > api.Horizon {
		return
	}
	if l, e := p.again().Tick(at); e != api.OK || len(l) == 0 {
		t.Fatalf("%v, behind %v: nothing goes at %d: %d", p.plain.setup, p.last(), at, e)
	}
	if at == p.Time() {
		return
	}
	if l, e := p.again().Tick(at - 1); e != api.OK || len(l) > 0 {
		t.Fatalf("%v, behind %v: ahead of %d goes %v: %d", p.plain.setup, p.last(), at, l, e)
	}
}

// again is another sender, behind the same calls.
func (p *pair) again() *sender.Sender {
	s, _ := sender.New(p.plain.setup)
	for _, c := range p.calls {
		c.do(s)
	}
	return s
}
