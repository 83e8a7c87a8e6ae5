package rate_test

import (
	"math"
	"math/big"
	"reflect"
	"slices"
	"testing"

	"goit/api"
	"goit/rate"
)

// greatest is the greatest number.
const greatest = math.MaxUint64

// sort is a call's: Stamp, Limit or Ack.
type sort int

const (
	stamp sort = iota
	limit
	ack
)

// call is Stamp(now, inflight), Limit(inflight), or Ack(now, l...).
type call struct {
	sort
	now, inflight uint64
	l             []api.Packet
}

func stamps(now, inflight uint64) call      { return call{sort: stamp, now: now, inflight: inflight} }
func limits(inflight uint64) call           { return call{sort: limit, inflight: inflight} }
func acks(now uint64, l ...api.Packet) call { return call{sort: ack, now: now, l: l} }
func sized(now, size uint64) call           { return acks(now, packet(size, api.Stamp{})) }

func packet(size uint64, s api.Stamp) api.Packet { return api.Packet{Size: size, Stamp: s} }
func sent(delivered, sent uint64) api.Stamp      { return api.Stamp{Delivered: delivered, Sent: sent} }
func times(sent, first, at uint64) api.Stamp     { return api.Stamp{Sent: sent, First: first, At: at} }

// behind is a sampler behind calls.
func behind(l ...call) *rate.Sampler {
	s := rate.New()
	do(s, l...)
	return s
}

// do makes calls, and tells the last one's answer.
func do(s *rate.Sampler, l ...call) (last answer) {
	for _, c := range l {
		last = c.do(s)
	}
	return last
}

// answer is what a call answers, and what is delivered behind it.
type answer struct {
	stamp     api.Stamp
	sample    api.Sample
	ok        bool
	delivered uint64
}

func (c call) do(s *rate.Sampler) (a answer) {
	switch c.sort {
	case stamp:
		a.stamp = s.Stamp(c.now, c.inflight)
	case limit:
		s.Limit(c.inflight)
	default:
		a.sample, a.ok = s.Ack(c.now, c.l...)
	}
	a.delivered = s.Delivered()
	return a
}

// look is all that a sampler tells without being changed.
func look(s *rate.Sampler) answer { return stamps(1<<50, 1).do(s) }

// plain is a sampler as the words say it, with its mark in numbers without a bound.
type plain struct {
	bytes       uint64
	last, first uint64
	mark        *big.Int // nil, if there is none
}

func large(x uint64) *big.Int { return new(big.Int).SetUint64(x) }

// bounded is a number, or the edge that it is beyond.
func bounded(x *big.Int) uint64 {
	if x.Sign() < 0 {
		return 0
	}
	if !x.IsUint64() {
		return greatest
	}
	return x.Uint64()
}

func sum(a, b uint64) uint64     { return bounded(new(big.Int).Add(large(a), large(b))) }
func without(a, b uint64) uint64 { return bounded(new(big.Int).Sub(large(a), large(b))) }

// newest is the place of the newest one: the last one that all others are no newer than.
func newest(l []api.Packet) int {
	for i, p := range slices.Backward(l) {
		if !slices.ContainsFunc(l, func(o api.Packet) bool {
			return o.Stamp.Delivered > p.Stamp.Delivered || o.Stamp.Delivered == p.Stamp.Delivered && o.Stamp.Sent > p.Stamp.Sent
		}) {
			return i
		}
	}
	panic("no packets")
}

// rated is bytes in a second, of those in an interval.
func rated(bytes, interval uint64) uint64 {
	if interval == 0 {
		return 0
	}
	x := new(big.Int).Mul(large(bytes), large(1000000))
	return bounded(x.Div(x, large(interval)))
}

// do is what a call makes of it, and its answer.
func (p plain) do(c call) (plain, answer) {
	var a answer
	switch c.sort {
	case stamp:
		if c.inflight == 0 {
			p.first, p.last = c.now, c.now
		}
		a.stamp = api.Stamp{Sent: c.now, First: p.first, Delivered: p.bytes, At: p.last, Limited: p.mark != nil}
	case limit:
		p.mark = large(sum(p.bytes, c.inflight))
		if p.mark.Sign() == 0 {
			p.mark = large(1)
		}
	default:
		if len(c.l) > 0 {
			p, a.sample = p.ack(c)
			a.ok = true
		}
	}
	a.delivered = p.bytes
	return p, a
}

// ack is what an Ack of one packet at least makes of it.
func (p plain) ack(c call) (plain, api.Sample) {
	for _, x := range c.l {
		p.bytes = sum(p.bytes, x.Size)
	}
	n := c.l[newest(c.l)].Stamp
	p.last, p.first = c.now, n.Sent
	if p.mark != nil && large(p.bytes).Cmp(p.mark) > 0 {
		p.mark = nil
	}
	s := api.Sample{Delivered: without(p.bytes, n.Delivered), RTT: without(c.now, n.Sent), Limited: n.Limited}
	s.Interval = without(n.Sent, n.First)
	if other := without(c.now, n.At); other > s.Interval {
		s.Interval = other
	}
	s.Rate = rated(s.Delivered, s.Interval)
	return p, s
}

// look is what it should tell.
func (p plain) look() answer {
	_, a := p.do(stamps(1<<50, 1))
	return a
}

// slow tells whether a sample's rate, over its interval, is not more than was delivered.
func slow(s api.Sample) bool {
	x := new(big.Int).Mul(large(s.Rate), large(s.Interval))
	return x.Cmp(new(big.Int).Mul(large(s.Delivered), large(1000000))) <= 0
}

// run makes calls on a new sampler, and holds what it tells at and behind each against a plain one. It looks twice: looking changes nothing.
func run(t *testing.T, l []call) {
	t.Helper()
	s, p := rate.New(), plain{}
	for i, c := range l {
		var want answer
		p, want = p.do(c)
		if got := c.do(s); got != want || !slow(got.sample) {
			t.Fatalf("at call %d, %v: %v, not %v", i, c, got, want)
		}
		if got, again := look(s), look(s); got != p.look() || again != got {
			t.Fatalf("behind call %d, %v: %v, then %v, not %v", i, c, got, again, p.look())
		}
	}
}

// rows calls f with all rows of one to n of some calls, with the plain sampler behind them, and the answer of the last one.
func rows(n int, of []call, f func(l []call, p plain, last answer)) {
	l := make([]call, 0, n)
	var grow func(p plain)
	grow = func(p plain) {
		if len(l) == n {
			return
		}
		for _, c := range of {
			next, last := p.do(c)
			l = append(l, c)
			f(l, next, last)
			grow(next)
			l = l[:len(l)-1]
		}
	}
	grow(plain{})
}

// step is a call, and what it answers.
type step struct {
	call
	answer
}

// gives is a step of a stamp, or of a limit.
func gives(c call, s api.Stamp, delivered uint64) step {
	return step{c, answer{stamp: s, delivered: delivered}}
}

// tells is a step of an Ack that has a sample.
func tells(c call, s api.Sample, delivered uint64) step {
	return step{c, answer{sample: s, ok: true, delivered: delivered}}
}

// steps holds a new sampler against them, one by one; the same calls are held against a plain one, so that this one is looked at as well.
func steps(t *testing.T, l ...step) {
	t.Helper()
	s := rate.New()
	if s == nil {
		t.Fatal("a new sampler is nil")
	}
	var calls []call
	for i, x := range l {
		if got := x.do(s); got != x.answer {
			t.Fatalf("step %d, %v: %v, not %v", i, x.call, got, x.answer)
		}
		calls = append(calls, x.call)
	}
	run(t, calls)
}

// P10.1 (Words, A1): a new sampler has nothing, at every call.
func TestNew(t *testing.T) {
	if s := rate.New(); s == nil || s.Delivered() != 0 {
		t.Fatal(s)
	}
	steps(t, gives(stamps(0, 0), api.Stamp{}, 0))
	steps(t, gives(stamps(7, 0), api.Stamp{Sent: 7, First: 7, At: 7}, 0))
	steps(t, gives(stamps(7, 1), api.Stamp{Sent: 7}, 0)) // all at first 0
	steps(t, gives(limits(0), api.Stamp{}, 0))
	steps(t, gives(limits(5), api.Stamp{}, 0))
	steps(t, step{acks(7), answer{}})
	steps(t, tells(sized(7, 0), api.Sample{Interval: 7, RTT: 7}, 0))
	steps(t, tells(sized(8, 6), api.Sample{Delivered: 6, Interval: 8, Rate: 750000, RTT: 8}, 6))
	if s := rate.New(); look(s) != (answer{stamp: api.Stamp{Sent: 1 << 50}}) {
		t.Error(look(s))
	}
}

// P10.1 (A1): with nothing in flight both times are now ahead of the stamp; with anything they stay.
func TestStampTimes(t *testing.T) {
	steps(t,
		gives(stamps(10, 0), api.Stamp{Sent: 10, First: 10, At: 10}, 0),
		gives(stamps(20, 1), api.Stamp{Sent: 20, First: 10, At: 10}, 0),
		gives(stamps(30, greatest), api.Stamp{Sent: 30, First: 10, At: 10}, 0),
		gives(stamps(40, 0), api.Stamp{Sent: 40, First: 40, At: 40}, 0),
		gives(stamps(35, 0), api.Stamp{Sent: 35, First: 35, At: 35}, 0), // earlier
		gives(stamps(5, 1), api.Stamp{Sent: 5, First: 35, At: 35}, 0),
		gives(stamps(0, 0), api.Stamp{}, 0),
		gives(stamps(greatest, 0), api.Stamp{Sent: greatest, First: greatest, At: greatest}, 0),
		gives(stamps(1, 3), api.Stamp{Sent: 1, First: greatest, At: greatest}, 0),
	)
}

// P10.1 (A1): each field of a stamp, behind bytes delivered, with and without a mark.
func TestStampFields(t *testing.T) {
	steps(t,
		tells(acks(50, packet(9, sent(0, 20))), api.Sample{Delivered: 9, Interval: 50, Rate: 180000, RTT: 30}, 9),
		gives(stamps(60, 4), api.Stamp{Sent: 60, First: 20, Delivered: 9, At: 50}, 9),
		gives(limits(4), api.Stamp{}, 9),
		gives(stamps(70, 5), api.Stamp{Sent: 70, First: 20, Delivered: 9, At: 50, Limited: true}, 9),
		gives(stamps(80, 0), api.Stamp{Sent: 80, First: 80, Delivered: 9, At: 80, Limited: true}, 9), // the mark stays
		tells(acks(90, packet(5, sent(9, 70))), api.Sample{Delivered: 5, Interval: 90, Rate: 55555, RTT: 20}, 14),
		gives(stamps(100, 1), api.Stamp{Sent: 100, First: 70, Delivered: 14, At: 90}, 14),
		gives(stamps(110, 0), api.Stamp{Sent: 110, First: 110, Delivered: 14, At: 110}, 14),
	)
}

// marked tells up to how many bytes, of those delivered one by one, a sampler has a mark; so many at most.
func marked(s *rate.Sampler, most uint64) uint64 {
	for range most {
		if !look(s).stamp.Limited {
			break
		}
		s.Ack(1, packet(1, api.Stamp{}))
	}
	return s.Delivered()
}

// P10.1 (A1, A2): the mark is the bytes and those in flight, 1 at least; it is no more with the first byte above it.
func TestMark(t *testing.T) {
	for _, x := range []struct {
		l      []call
		behind uint64 // the bytes with which it is no more
	}{
		{[]call{limits(0)}, 2}, // it is 1
		{[]call{limits(1)}, 2},
		{[]call{limits(2)}, 3},
		{[]call{limits(300)}, 301},
		{[]call{sized(5, 1), limits(0)}, 2},
		{[]call{sized(5, 1), limits(1)}, 3},
		{[]call{sized(5, 7), limits(0)}, 8},
		{[]call{sized(5, 7), limits(5)}, 13},
		{[]call{sized(5, 7), limits(5), limits(0)}, 8},   // a lower one in its place
		{[]call{sized(5, 7), limits(0), limits(5)}, 13},  // a higher one
		{[]call{limits(9), sized(5, 7), limits(1)}, 9},   // with the bytes that were delivered since
		{[]call{limits(9), sized(5, 7), limits(20)}, 28}, // one that is still there
		{[]call{limits(9), sized(5, 10), limits(2)}, 13}, // one that is not
		{[]call{limits(9), limits(0)}, 2},
		{[]call{limits(9), stamps(3, 0), stamps(4, 1), acks(3)}, 10}, // it stays
	} {
		if s := behind(x.l...); !look(s).stamp.Limited || marked(s, 400) != x.behind {
			t.Errorf("%v: it is no more with %d bytes, not with %d", x.l, s.Delivered(), x.behind)
		}
		run(t, append(slices.Clone(x.l), slices.Repeat([]call{sized(6, 1)}, int(x.behind)+2)...))
	}
}

// P10.1 (A2): bytes just below the mark, at it, and above it, all at once.
func TestMarkEdges(t *testing.T) {
	for _, x := range []struct {
		size uint64
		is   bool
	}{{0, true}, {1, true}, {89, true}, {90, true}, {91, false}, {92, false}, {1 << 60, false}, {greatest, false}} {
		l := []call{sized(1, 10), limits(90), sized(2, x.size)}
		if got := look(behind(l...)).stamp.Limited; got != x.is {
			t.Errorf("100 is the mark, with %d more than 10: %v", x.size, got)
		}
		// in two packets
		if got := look(behind(l[0], l[1], acks(2, packet(x.size/2, sent(4, 4)), packet(x.size-x.size/2, sent(5, 5))))).stamp.Limited; got != x.is {
			t.Errorf("100 is the mark, with %d more than 10 in two packets: %v", x.size, got)
		}
		run(t, l)
	}
	// 1 at least
	for size, is := range []bool{true, true, false, false} {
		if got := look(behind(limits(0), sized(2, uint64(size)))).stamp.Limited; got != is {
			t.Errorf("1 is the mark, with %d: %v", size, got)
		}
	}
	// once it is no more, bytes do not bring it back
	steps(t,
		gives(limits(3), api.Stamp{}, 0),
		tells(sized(1, 4), api.Sample{Delivered: 4, Interval: 1, Rate: 4000000, RTT: 1}, 4),
		gives(stamps(2, 1), api.Stamp{Sent: 2, Delivered: 4, At: 1}, 4),
		tells(sized(3, 0), api.Sample{Delivered: 4, Interval: 3, Rate: 1333333, RTT: 3}, 4),
		gives(stamps(4, 1), api.Stamp{Sent: 4, Delivered: 4, At: 3}, 4),
	)
}

// P10.1 (A1) and DOC.md, rule 10: a mark that would run over is the greatest number, and nothing is above that.
func TestMarkOver(t *testing.T) {
	for _, x := range []struct {
		delivered, inflight, more uint64
		is                        bool
	}{
		{1, greatest, 0, true}, // wrapped round it would be 0, so 1
		{2, greatest, greatest, true},
		{9, greatest, greatest, true},
		{9, greatest - 9, greatest, true},            // the greatest number, without running over
		{9, greatest - 10, greatest - 9, false},      // one below it
		{9, greatest - 10, greatest - 10, true},      // at it
		{9, greatest - 8, greatest, true},            // one above it
		{9, greatest - 8, 5, true},                   // wrapped round it would be 0
		{greatest, 0, greatest, true},                // all that may be delivered was
		{greatest, 1, 1, true},                       // and more is in flight
		{greatest, greatest, greatest, true},         //
		{greatest - 1, 0, 1, false},                  // one below it
		{1 << 63, 1 << 63, 1 << 63, true},            // it would be 2^64
		{1 << 63, 1<<63 - 1, 1 << 63, true},          // the greatest number
		{1 << 63, 1<<63 - 2, 1 << 63, false},         // one below it
		{1 << 63, 1<<63 - 2, 1<<63 - 1, false},       //
		{1 << 63, 1<<63 - 2, 1<<63 - 2, true},        // at it
		{0, greatest, greatest, true},                //
		{0, greatest - 1, greatest, false},           //
		{0, greatest - 1, greatest - 1, true},        //
		{1500, greatest - 1499, 1000000000000, true}, // wrapped round it would be 0
	} {
		l := []call{sized(1, x.delivered), limits(x.inflight), sized(2, x.more)}
		if got := look(behind(l...)).stamp.Limited; got != x.is {
			t.Errorf("%v: %v", x, got)
		}
		run(t, l)
	}
}

// P10.1 (A2): of no packets false, and nothing changes.
func TestAckNone(t *testing.T) {
	for _, c := range []call{acks(99), {sort: ack, now: 99, l: []api.Packet{}}, {sort: ack, now: 99, l: make([]api.Packet, 3)[:0]}} {
		steps(t,
			step{c, answer{}},
			gives(stamps(10, 0), api.Stamp{Sent: 10, First: 10, At: 10}, 0),
			step{c, answer{}},
			gives(stamps(20, 1), api.Stamp{Sent: 20, First: 10, At: 10}, 0),
			gives(limits(3), api.Stamp{}, 0),
			step{c, answer{}},
			gives(stamps(30, 1), api.Stamp{Sent: 30, First: 10, At: 10, Limited: true}, 0),
			tells(acks(40, packet(2, times(20, 10, 10))), api.Sample{Delivered: 2, Interval: 30, Rate: 66666, RTT: 20}, 2),
			step{c, answer{delivered: 2}},
			gives(stamps(50, 1), api.Stamp{Sent: 50, First: 20, Delivered: 2, At: 40, Limited: true}, 2),
			tells(sized(60, 7), api.Sample{Delivered: 9, Interval: 60, Rate: 150000, RTT: 60}, 9),
			step{c, answer{delivered: 9}},
			gives(stamps(70, 1), api.Stamp{Sent: 70, Delivered: 9, At: 60}, 9),
		)
	}
}

// P10.1 (A1, A2): behind an Ack the next stamp tells the newest one's time, and that of the delivery; with nothing in flight both are now.
func TestTimesBehindAck(t *testing.T) {
	ahead := tells(acks(90, packet(5, times(70, 20, 10))), api.Sample{Delivered: 5, Interval: 80, Rate: 62500, RTT: 20}, 5)
	steps(t, ahead, gives(stamps(95, 1), api.Stamp{Sent: 95, First: 70, Delivered: 5, At: 90}, 5))
	steps(t, ahead, gives(stamps(95, 0), api.Stamp{Sent: 95, First: 95, Delivered: 5, At: 95}, 5))
	// also earlier ones than were
	steps(t, ahead,
		tells(acks(40, packet(1, times(30, 30, 30))), api.Sample{Delivered: 6, Interval: 10, Rate: 600000, RTT: 10}, 6),
		gives(stamps(96, 1), api.Stamp{Sent: 96, First: 30, Delivered: 6, At: 40}, 6),
		tells(acks(0, packet(1, sent(6, 0))), api.Sample{Delivered: 1}, 7),
		gives(stamps(97, 1), api.Stamp{Sent: 97, Delivered: 7}, 7),
	)
}

// P10.1 (A2): the newest one has the greatest Delivered, then the greatest Sent, then it is the last one, wherever it stands.
func TestNewest(t *testing.T) {
	// each one's Sent, At, First, Limited and bytes are its own, so that a sample tells whose it is
	old := packet(1, api.Stamp{Sent: 900, First: 100, Delivered: 10, At: 300})
	late := packet(2, api.Stamp{Sent: 901, First: 110, Delivered: 10, At: 301, Limited: true})
	young := packet(4, api.Stamp{Sent: 500, First: 490, Delivered: 11, At: 303}) // sent earlier, with more delivered
	twin := packet(8, api.Stamp{Sent: 500, First: 10, Delivered: 11, At: 305, Limited: true})
	for _, x := range []struct {
		l      []api.Packet
		newest api.Packet
	}{
		{[]api.Packet{old}, old},
		{[]api.Packet{late, old}, late},
		{[]api.Packet{old, late}, late},
		{[]api.Packet{young, old, late}, young},
		{[]api.Packet{old, young, late}, young},
		{[]api.Packet{old, late, young}, young},
		{[]api.Packet{young, twin}, twin},
		{[]api.Packet{twin, young}, young},
		{[]api.Packet{young, late, twin, old}, twin},
		{[]api.Packet{twin, old, young, late}, young},
		{[]api.Packet{old, twin, old, twin, old, young, late}, young},
		{[]api.Packet{young, young, twin, old, old}, twin},
	} {
		n := x.newest.Stamp
		bytes := uint64(20)
		for _, p := range x.l {
			bytes += p.Size
		}
		want := api.Sample{Delivered: bytes - n.Delivered, Interval: max(n.Sent-n.First, 1000-n.At), RTT: 1000 - n.Sent, Limited: n.Limited}
		want.Rate = want.Delivered * 1000000 / want.Interval
		steps(t,
			tells(sized(3, 20), api.Sample{Delivered: 20, Interval: 3, Rate: 6666666, RTT: 3}, 20),
			tells(acks(1000, x.l...), want, bytes),
			gives(stamps(1001, 1), api.Stamp{Sent: 1001, First: n.Sent, Delivered: bytes, At: 1000}, bytes),
		)
	}
}

// P10.1 (A2): packets at the edges of a stamp's numbers: those alone count, not a packet's number or bytes.
func TestNewestEdges(t *testing.T) {
	var all []api.Packet
	for _, delivered := range []uint64{0, 1, 1 << 63, greatest} {
		for _, when := range []uint64{0, 1, 1 << 63, greatest} {
			for _, first := range []uint64{0, 5} {
				all = append(all, api.Packet{N: uint64(40 - len(all)), Size: uint64(40 - len(all)), Stamp: api.Stamp{Sent: when, First: first, Delivered: delivered, At: 3, Limited: first == 0}})
			}
		}
	}
	for _, a := range all {
		for _, b := range all {
			run(t, []call{sized(1, 77), acks(greatest, a, b), acks(1<<62, b, a, b), acks(8, a, b, a)})
		}
	}
}

// P10.1 (A2): the interval is the greater one of what is between First and Sent, and between At and now.
func TestInterval(t *testing.T) {
	for _, x := range []struct {
		s                  api.Stamp
		now, interval, rtt uint64
	}{
		{times(500, 100, 480), 600, 400, 100},
		{times(500, 400, 150), 600, 450, 100},
		{times(500, 400, 500), 600, 100, 100}, // both
		{times(500, 400, 501), 600, 100, 100},
		{times(500, 400, 499), 600, 101, 100},
		{times(500, 401, 500), 600, 100, 100},
		{times(500, 399, 500), 600, 101, 100},
		{times(500, 500, 500), 500, 0, 0},
		{times(500, 499, 500), 500, 1, 0},
		{times(500, 500, 499), 500, 1, 0},
		{times(500, 600, 100), 700, 600, 200}, // First is behind Sent: 0
		{times(500, 600, 700), 700, 0, 200},
		{times(500, 600, 800), 700, 0, 200}, // At lies behind now as well
		{times(500, 490, 800), 700, 10, 200},
		{times(800, 500, 700), 700, 300, 0}, // sent behind now
		{times(701, 701, 700), 700, 0, 0},
		{times(800, 800, 0), 700, 700, 0},
		{times(greatest, 0, 0), 0, greatest, 0},
		{times(0, 0, 0), greatest, greatest, greatest},
		{times(greatest, greatest, greatest), greatest, 0, 0},
		{times(greatest, greatest, greatest), 0, 0, 0},
		{times(0, greatest, greatest), 0, 0, 0},
		{times(1, 0, greatest), greatest, 1, greatest - 1},
		{times(1<<63, 1, 0), 1<<63 - 1, 1<<63 - 1, 0},
	} {
		want := api.Sample{Delivered: 6, Interval: x.interval, RTT: x.rtt}
		if x.interval > 0 {
			want.Rate = 6000000 / x.interval
		}
		steps(t, tells(acks(x.now, packet(6, x.s)), want, 6))
	}
}

// P10.1 (A2): what was delivered is the bytes behind the Ack, without the newest one's; 0 in place of what would be below it.
func TestSampleDelivered(t *testing.T) {
	for _, x := range []struct{ ahead, size, stamp, delivered, bytes uint64 }{
		{0, 0, 0, 0, 0},
		{0, 9, 0, 9, 9},
		{100, 9, 0, 109, 109},
		{100, 9, 100, 9, 109},
		{100, 9, 108, 1, 109},
		{100, 9, 109, 0, 109},
		{100, 9, 110, 0, 109}, // above the bytes
		{100, 9, greatest, 0, 109},
		{100, 0, 100, 0, 100},
		{100, 0, 40, 60, 100},
		{greatest, 0, 1, greatest - 1, greatest},
		{greatest, 9, 0, greatest, greatest},
		{greatest, 9, greatest, 0, greatest}, // no more than the greatest number is delivered
		{greatest - 9, 9, 0, greatest, greatest},
		{greatest - 9, 8, 0, greatest - 1, greatest - 1},
		{greatest - 9, 10, 5, greatest - 5, greatest},
		{1 << 63, 1 << 63, 1 << 63, 1<<63 - 1, greatest},
		{greatest, greatest, 7, greatest - 7, greatest},
	} {
		l := []call{sized(1, x.ahead), acks(1000003, packet(x.size, api.Stamp{Sent: 3, First: 3, Delivered: x.stamp, At: 3}))}
		want := answer{sample: api.Sample{Delivered: x.delivered, Interval: 1000000, Rate: x.delivered, RTT: 1000000}, ok: true, delivered: x.bytes}
		if got := do(rate.New(), l...); got != want {
			t.Errorf("%v: %v", x, got)
		}
		run(t, l)
	}
}

// P10.1 (A2) and DOC.md, rule 10: the bytes of all packets are delivered, none of them twice, and their sum does not wrap round.
func TestAllDelivered(t *testing.T) {
	one := func(size uint64) api.Packet { return packet(size, sent(size, 1)) }
	for _, x := range []struct {
		l     []api.Packet
		bytes uint64
	}{
		{[]api.Packet{one(1), one(2), one(4)}, 7},
		{[]api.Packet{one(4), one(2), one(1)}, 7},
		{[]api.Packet{one(2), one(4), one(1)}, 7},
		{[]api.Packet{one(4), one(4), one(4)}, 12},
		{[]api.Packet{one(0), one(0)}, 0},
		{[]api.Packet{one(0), one(5), one(0)}, 5},
		{[]api.Packet{one(greatest), one(1)}, greatest},
		{[]api.Packet{one(1), one(greatest)}, greatest},
		{[]api.Packet{one(greatest), one(greatest), one(greatest)}, greatest},
		{[]api.Packet{one(1 << 63), one(1<<63 - 1)}, greatest},
		{[]api.Packet{one(1 << 63), one(1<<63 - 2)}, greatest - 1},
		{[]api.Packet{one(1 << 63), one(1 << 63), one(5)}, greatest},
		{slices.Repeat([]api.Packet{one(1500)}, 1000), 1500000},
	} {
		s := rate.New()
		if _, ok := s.Ack(5, x.l...); !ok || s.Delivered() != x.bytes {
			t.Errorf("%d packets: %d, not %d", len(x.l), s.Delivered(), x.bytes)
		}
		run(t, []call{acks(5, x.l...), acks(6, x.l...)})
	}
}

// P10.1 (A2): the rate is what was delivered in a second, by the interval, rounded down; 0 of an interval of 0; without running over ahead of the division (1: Share).
func TestRateRounded(t *testing.T) {
	for _, x := range []struct{ bytes, interval, rate uint64 }{
		{0, 0, 0},
		{1, 0, 0},
		{greatest, 0, 0},
		{0, 1, 0},
		{1, 1, 1000000},
		{1, 2, 500000},
		{1, 3, 333333},
		{2, 3, 666666},
		{3, 3, 1000000},
		{1, 7, 142857},
		{1, 999999, 1},
		{1, 1000000, 1},
		{1, 1000001, 0},
		{2, 1000001, 1},
		{999999, 1000000, 999999},
		{1500, 12000, 125000},
		{2000, 12000, 166666},
		{18446744073709, 1, 18446744073709000000},
		{18446744073710, 1, greatest}, // the rate would be above the greatest number
		{18446744073710, 2, 9223372036855000000},
		{1 << 50, 1 << 20, 1 << 30 * 1000000}, // the product is, the rate is not
		{greatest, 1000000, greatest},
		{greatest, 999999, greatest},
		{greatest, 1000001, 18446725626983924631},
		{greatest, greatest, 1000000},
		{greatest - 1, greatest, 999999},
		{1, greatest, 0},
	} {
		for _, s := range []api.Stamp{times(0, 0, 0), times(x.interval, 0, x.interval)} {
			got := do(rate.New(), acks(x.interval, packet(x.bytes, s))).sample
			if got.Delivered != x.bytes || got.Interval != x.interval || got.Rate != x.rate {
				t.Errorf("%v: %v", x, got)
			}
			run(t, []call{acks(x.interval, packet(x.bytes, s))})
		}
	}
}

// P10.1 (A2): a sample is limited if the newest one's stamp is, whatever the mark.
func TestSampleLimited(t *testing.T) {
	for _, is := range []bool{false, true} {
		for _, ahead := range [][]call{nil, {limits(0)}, {limits(100)}, {sized(1, 1)}} {
			l := append(slices.Clip(ahead), acks(9, packet(5, api.Stamp{Limited: !is}), packet(5, api.Stamp{Sent: 1, Limited: is})))
			if got := do(rate.New(), l...).sample.Limited; got != is {
				t.Errorf("%v: %v", l, got)
			}
			run(t, l)
		}
	}
}

// P10.1: a flight, step by step, from its stamps to its samples.
func TestFlight(t *testing.T) {
	a := api.Stamp{Sent: 100, First: 100, At: 100}
	b := api.Stamp{Sent: 110, First: 100, At: 100}
	c := api.Stamp{Sent: 200, First: 100, Delivered: 1500, At: 180, Limited: true}
	d := api.Stamp{Sent: 400, First: 400, Delivered: 3800, At: 400}
	steps(t,
		gives(stamps(100, 0), a, 0),
		gives(stamps(110, 1500), b, 0),
		tells(acks(180, packet(1500, a)), api.Sample{Delivered: 1500, Interval: 80, Rate: 18750000, RTT: 80}, 1500),
		gives(limits(1500), api.Stamp{}, 1500),
		gives(stamps(200, 1500), c, 1500),
		tells(acks(290, packet(1500, b), packet(800, c)), api.Sample{Delivered: 2300, Interval: 110, Rate: 20909090, RTT: 90, Limited: true}, 3800),
		gives(stamps(400, 0), d, 3800),
		tells(acks(470, packet(0, d)), api.Sample{Interval: 70, RTT: 70}, 3800),
	)
}

// edges are calls at, below and above the edges that the document names, and at those of numbers.
func edges() []call {
	return []call{
		stamps(0, 0), stamps(5, 0), stamps(9, 1), stamps(greatest, 0),
		limits(0), limits(3), limits(greatest),
		acks(7), acks(greatest),
		acks(8, packet(0, api.Stamp{})),
		acks(9, packet(1, times(5, 5, 5))),
		acks(6, packet(2, api.Stamp{Sent: 9, First: 2, Delivered: 1, At: 4, Limited: true}), packet(1, sent(1, 8))),
		acks(12, packet(3, sent(2, 5)), packet(0, sent(3, 3)), packet(1, sent(3, 3))),
		acks(greatest, packet(greatest-2, sent(0, 4)), packet(1, times(greatest, 1, 0))),
		acks(3, packet(greatest, sent(greatest, greatest))),
	}
}

// P10.1 and P10.2, behind all rows of calls.
func TestRows(t *testing.T) {
	hold := func(l []call, p plain, last answer) {
		s := rate.New()
		if got := do(s, l...); got != last || !slow(got.sample) {
			t.Fatalf("%v: the last one %v, not %v", l, got, last)
		}
		if got := look(s); got != p.look() {
			t.Fatalf("behind %v: %v, not %v", l, got, p.look())
		}
	}
	rows(4, edges(), hold)
	rows(7, []call{stamps(4, 0), limits(0), limits(2), sized(5, 1), acks(6, packet(2, sent(1, 1)), packet(1, sent(1, 2)))}, hold)
}

// numbers calls f with so many numbers, of all lengths, in an order that shows no rule.
func numbers(n int, f func(x uint64)) {
	x := uint64(1)
	for range n {
		x = x*6364136223846793005 + 1442695040888963407
		f(x >> (x >> 32 % 64))
	}
}

// mixed is calls of all sorts, with numbers of at most so much.
func mixed(n int, most uint64) []call {
	var l []call
	kept := []uint64{1, 2, 3, 4, 5}
	numbers(n, func(x uint64) {
		kept = append(kept[1:], x>>3&most)
		switch x % 8 {
		case 0:
			l = append(l, stamps(kept[4], 0))
		case 1, 2:
			l = append(l, stamps(kept[4], kept[3]))
		case 3:
			l = append(l, limits(kept[4]))
		default:
			var ps []api.Packet
			for i := range x >> 5 % 4 {
				ps = append(ps, api.Packet{N: i, Size: kept[(i+1)%5], Stamp: api.Stamp{Sent: kept[i], First: kept[(i+3)%5], Delivered: kept[(i*2+1)%5], At: kept[(i+2)%5], Limited: x>>7%2 == 0}})
			}
			l = append(l, acks(kept[4], ps...))
		}
	})
	return l
}

// P10.1 and P10.2, at and behind each of many calls.
func TestLong(t *testing.T) {
	for _, most := range []uint64{3, 1<<10 - 1, 1<<20 - 1, 1<<42 - 1, 1<<60 - 1, greatest} {
		run(t, mixed(20000, most))
	}
}

// path sends packets by their own stamps, and acknowledges some of these that are out, in an order that shows no rule; f sees each call.
func path(n int, f func(c call) answer) {
	var out []api.Packet
	now, inflight := uint64(1000), uint64(0)
	numbers(n, func(x uint64) {
		now += x >> 3 % 500
		switch {
		case x%16 == 0:
			f(limits(inflight))
		case x%3 != 0 || len(out) == 0:
			size := 1 + x>>4%1500
			out = append(out, packet(size, f(stamps(now, inflight)).stamp))
			inflight += size
		default:
			from := int(x >> 5 % uint64(len(out)))
			to := min(len(out), from+1+int(x>>9%8))
			l := slices.Clone(out[from:to])
			if x>>13%2 == 0 {
				slices.Reverse(l)
			}
			out = slices.Delete(out, from, to)
			for _, p := range l {
				inflight -= p.Size
			}
			f(acks(now, l...))
		}
	})
}

// P10.1 and P10.2, of packets with stamps of the sampler's own: what it tells holds against a plain one's, and against the path.
func TestPath(t *testing.T) {
	s, p := rate.New(), plain{}
	sum, samples := uint64(0), 0
	path(200000, func(c call) answer {
		got := c.do(s)
		var want answer
		p, want = p.do(c)
		if got != want || look(s) != p.look() {
			t.Fatalf("%v: %v, not %v", c, got, want)
		}
		for _, x := range c.l {
			sum += x.Size
		}
		if got.delivered != sum || !slow(got.sample) {
			t.Fatalf("%v: %v, with %d delivered", c, got, sum)
		}
		if got.ok {
			samples++
		}
		return got
	})
	if samples < 10000 {
		t.Error(samples)
	}
}

// P10.1 (A2): a million packets, all at once, with the newest one anywhere.
func TestMany(t *testing.T) {
	l := slices.Repeat([]api.Packet{packet(3, sent(7, 7))}, 1000000)
	for _, i := range []int{0, 1, 499999, 999998, 999999} {
		l[i].Stamp = api.Stamp{Sent: 8, First: 6, Delivered: 7, At: 2, Limited: true}
		s := rate.New()
		want := api.Sample{Delivered: 2999993, Interval: 10, Rate: 299999300000, RTT: 4, Limited: true}
		if got, ok := s.Ack(12, l...); !ok || got != want || s.Delivered() != 3000000 {
			t.Errorf("the newest at %d: %v, %d", i, got, s.Delivered())
		}
		l[i].Stamp = sent(7, 7)
	}
}

// P10.2: the rate, over the interval, is not more than was delivered; one more a second would be, but for the greatest rate.
func TestNoFaster(t *testing.T) {
	hold := func(bytes, interval uint64) {
		got, _ := rate.New().Ack(interval, packet(bytes, api.Stamp{}))
		if !slow(got) {
			t.Fatalf("%d in %d: %v", bytes, interval, got)
		}
		got.Rate++
		if interval > 0 && got.Rate != 0 && slow(got) {
			t.Fatalf("%d in %d: a rate of %d would not be more", bytes, interval, got.Rate)
		}
	}
	for bytes := range uint64(300) {
		for interval := range uint64(300) {
			hold(bytes, interval)
			hold(bytes, interval+999900)
			hold(greatest-bytes, interval)
			hold(greatest-bytes, greatest-interval)
			hold(bytes, greatest-interval)
		}
	}
	ahead := uint64(1)
	numbers(200000, func(x uint64) {
		hold(ahead, x)
		ahead = x
	})
}

// DOC.md, rule 4: the packets that are handed in stay as they are, and so do those behind the list.
func TestHandedIn(t *testing.T) {
	memory := []api.Packet{
		{N: 1, Size: 5, Stamp: api.Stamp{Sent: 9, First: 8, Delivered: 7, At: 6, Limited: true}},
		{N: 2, Size: 4, Stamp: api.Stamp{Sent: 3, First: 2, Delivered: 8, At: 1}},
		{N: 3, Size: 3, Stamp: api.Stamp{Sent: 4, First: 4, Delivered: 2, At: 4}},
		{N: 4, Size: greatest, Stamp: api.Stamp{Sent: 99, First: 1, Delivered: 99, At: 0, Limited: true}}, // behind the list
	}
	was := slices.Clone(memory)
	s := rate.New()
	got, _ := s.Ack(50, memory[:3]...)
	if !reflect.DeepEqual(memory, was) || s.Delivered() != 12 || got != (api.Sample{Delivered: 4, Interval: 49, Rate: 81632, RTT: 47}) {
		t.Errorf("%v, %d: %v", memory, s.Delivered(), got)
	}
	// and they are not kept
	clear(memory)
	if got := look(s); got != (answer{stamp: api.Stamp{Sent: 1 << 50, First: 3, Delivered: 12, At: 50}, delivered: 12}) {
		t.Error(got)
	}
}

// P10.1 (A2) and P1: a nil sampler answers 0, nothing, and false, whatever it is asked.
func TestNil(t *testing.T) {
	var s *rate.Sampler
	for _, c := range edges() {
		if got := c.do(s); got != (answer{}) {
			t.Errorf("nil, at %v: %v", c, got)
		}
		if got := look(s); got != (answer{}) {
			t.Errorf("nil, behind %v: %v", c, got)
		}
	}
}

// P2: a sampler hangs on its own calls alone, not on another one's, and not on how often it is asked.
func TestOwnCallsAlone(t *testing.T) {
	rows(4, edges(), func(l []call, p plain, last answer) {
		s, other := rate.New(), rate.New()
		if s == other {
			t.Fatal("two new samplers are one")
		}
		var got answer
		q := plain{}
		for i, c := range l {
			back := l[len(l)-1-i]
			back.do(other)
			q, _ = q.do(back)
			look(s)
			got = c.do(s)
			look(other)
		}
		if got != last || look(s) != p.look() {
			t.Fatalf("%v: %v beside another sampler, not %v", l, got, last)
		}
		if look(other) != q.look() {
			t.Fatalf("%v, backwards: %v beside another sampler, not %v", l, look(other), q.look())
		}
	})
	if got := look(rate.New()); got != (plain{}).look() {
		t.Errorf("then a new sampler tells %v", got)
	}
}
