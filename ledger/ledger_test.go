package ledger_test

import (
	"math"
	"slices"
	"testing"

	"goit/api"
	"goit/ledger"
)

// greatest is the greatest number: no packet has it.
const greatest = math.MaxUint64

// to is a range, one a range of one number.
func to(from, to uint64) api.Range { return api.Range{From: from, To: to} }
func one(n uint64) api.Range       { return to(n, n) }

// stamp is one of a time, with other numbers that tell it from others.
func stamp(sent uint64) api.Stamp {
	return api.Stamp{Sent: sent, First: sent + 1, Delivered: sent ^ 5, At: sent / 3, Limited: sent%2 == 1}
}

// call is Send(size, stamp(sent)), Ack(l...), or Lost(now, delay, limit).
type call struct {
	name              string
	size, sent        uint64
	l                 []api.Range
	now, delay, limit uint64
}

func send(size, sent uint64) call { return call{name: "Send", size: size, sent: sent} }
func ack(l ...api.Range) call     { return call{name: "Ack", l: l} }
func lost(now, delay, limit uint64) call {
	return call{name: "Lost", now: now, delay: delay, limit: limit}
}

// sends is n calls of Send, with one byte each, at time 0.
func sends(n int) []call { return slices.Repeat([]call{send(1, 0)}, n) }

// answer is what a call does.
type answer struct {
	n   uint64
	l   []api.Packet
	err api.Errno
}

func (a answer) same(b answer) bool { return a.n == b.n && a.err == b.err && slices.Equal(a.l, b.l) }

func (c call) do(l *ledger.Ledger) (a answer) {
	switch c.name {
	case "Send":
		a.n = l.Send(c.size, stamp(c.sent))
	case "Ack":
		a.l, a.err = l.Ack(c.l...)
	default:
		a.l = l.Lost(c.now, c.delay, c.limit)
	}
	return a
}

// plain is a ledger as the words say it: all packets that were sent, and whether each is out.
type plain struct {
	reorder uint64
	sent    []api.Packet
	out     []bool
	top     uint64
	topped  bool
}

func (p *plain) do(c call) (a answer) {
	switch c.name {
	case "Send":
		a.n = uint64(len(p.sent))
		p.sent, p.out = append(p.sent, api.Packet{N: a.n, Size: c.size, Stamp: stamp(c.sent)}), append(p.out, true)
	case "Ack":
		for _, r := range c.l {
			if r.From > r.To || r.To == greatest {
				return answer{err: api.ErrArg}
			}
		}
		a.l = p.take(func(x api.Packet) bool {
			return slices.ContainsFunc(c.l, func(r api.Range) bool { return r.From <= x.N && x.N <= r.To })
		})
		for _, x := range a.l {
			if !p.topped || x.N > p.top {
				p.top, p.topped = x.N, true
			}
		}
	default:
		a.l = p.take(func(x api.Packet) bool { return p.loses(x, c) })
	}
	return a
}

// loses tells whether a packet that is out is lost.
func (p *plain) loses(x api.Packet, c call) bool {
	switch {
	case p.topped && sum(x.N, p.reorder) <= p.top:
		return true
	case p.topped && x.N < p.top && sum(x.Stamp.Sent, c.delay) <= c.now:
		return true
	}
	return sum(x.Stamp.Sent, c.limit) <= c.now
}

// take takes those away that are out and of which f tells so.
func (p *plain) take(f func(x api.Packet) bool) []api.Packet {
	var l []api.Packet
	for i, x := range p.sent {
		if p.out[i] && f(x) {
			l, p.out[i] = append(l, x), false
		}
	}
	return l
}

// all is those that are out, and their bytes.
func (p *plain) all() (l []api.Packet, size uint64) {
	for i, x := range p.sent {
		if p.out[i] {
			l, size = append(l, x), sum(size, x.Size)
		}
	}
	return l, size
}

// clone is a plain one with the same.
func (p *plain) clone() *plain {
	other := *p
	other.sent, other.out = slices.Clone(p.sent), slices.Clone(p.out)
	return &other
}

// sum is a sum that does not run over.
func sum(a, b uint64) uint64 {
	if a > greatest-b {
		return greatest
	}
	return a + b
}

// numbers is those of packets.
func numbers(l []api.Packet) []uint64 {
	var all []uint64
	for _, x := range l {
		all = append(all, x.N)
	}
	return all
}

// hold holds all that a ledger tells against a plain one.
func hold(t *testing.T, l *ledger.Ledger, p *plain) {
	all, size := p.all()
	if got := l.Out(); !slices.Equal(got, all) {
		t.Fatalf("Out is %v, not %v", got, all)
	}
	if got := l.InFlight(); got != size {
		t.Fatalf("InFlight is %d, not %d", got, size)
	}
	if got := l.Next(); got != uint64(len(p.sent)) {
		t.Fatalf("Next is %d, not %d", got, len(p.sent))
	}
	if n, ok := l.Top(); n != p.top || ok != p.topped {
		t.Fatalf("Top is %d %v, not %d %v", n, ok, p.top, p.topped)
	}
}

// run makes calls on a ledger and on a plain one, and holds the answers, and what is told behind each, against each other.
func run(t *testing.T, l *ledger.Ledger, p *plain, calls []call) {
	for i, c := range calls {
		want := p.do(c)
		if got := c.do(l); !got.same(want) {
			t.Fatalf("behind %v, with a reorder of %d, %v: %v, not %v", calls[:i], p.reorder, c, got, want)
		}
		hold(t, l, p)
	}
}

// begin is a ledger and a plain one, without packets.
func begin(reorder uint64) (*ledger.Ledger, *plain) {
	return ledger.New(reorder), &plain{reorder: reorder}
}

// step is a call, the numbers of the packets that it tells, and of those that are out then, and the top, -1 if there is none.
type step struct {
	call
	told, out []uint64
	top       int
}

// is is a list of numbers.
func is(n ...uint64) []uint64 { return n }

// count is the numbers from one up to another.
func count(from, to uint64) (l []uint64) {
	for n := from; n <= to; n++ {
		l = append(l, n)
	}
	return l
}

// steps holds a ledger, behind some calls, against steps, one by one; so it does a plain one, lest that one be wrong too.
func steps(t *testing.T, reorder uint64, ahead []call, l ...step) {
	t.Helper()
	a, p := begin(reorder)
	run(t, a, p, ahead)
	for i, x := range l {
		want := p.do(x.call)
		if got := x.do(a); !got.same(want) || !slices.Equal(numbers(got.l), x.told) || got.err != api.OK {
			t.Fatalf("step %d, %v: %v, not %v", i, x.call, got, x.told)
		}
		if got := numbers(a.Out()); !slices.Equal(got, x.out) {
			t.Fatalf("step %d, %v: %v are out, not %v", i, x.call, got, x.out)
		}
		if n, ok := a.Top(); ok != (x.top >= 0) || n != uint64(max(0, x.top)) {
			t.Fatalf("step %d, %v: the top is %d %v, not %d", i, x.call, n, ok, x.top)
		}
		hold(t, a, p)
	}
}

// rows calls f with all rows of n of some calls.
func rows(n int, of []call, f func(l []call)) {
	l := make([]call, n)
	var fill func(i int)
	fill = func(i int) {
		if i == n {
			f(l)
			return
		}
		for _, c := range of {
			l[i] = c
			fill(i + 1)
		}
	}
	fill(0)
}

// wrong are ranges that may not be put.
func wrong() []api.Range {
	return []api.Range{
		to(1, 0), to(6, 5), to(3, 0), to(greatest-1, 0), // the first above the last
		to(greatest, 0), to(greatest, greatest-1), // from the greatest number
		to(0, greatest), to(3, greatest), one(greatest), // up to it
	}
}

// P8.1 (L1: New): a ledger without packets, at every call.
func TestEmpty(t *testing.T) {
	for _, reorder := range []uint64{0, 1, 3, greatest} {
		l, p := begin(reorder)
		if l == nil {
			t.Fatal("a new ledger is nil")
		}
		hold(t, l, p)
		run(t, l, p, []call{ack(), ack(one(0)), ack(to(0, greatest-1)), ack(to(1, 0)), lost(0, 0, 0), lost(greatest, 0, 0), lost(0, greatest, greatest), lost(greatest, greatest, greatest)})
		run(t, l, p, []call{send(5, 3), ack(one(0)), ack(one(0)), lost(greatest, 0, 0), ack(one(1)), send(6, 4), lost(9, 9, 5), lost(greatest, 0, 0)})
	}
}

// P8.1 (L1: Send): numbers from 0 on, whatever was acknowledged or lost between; each with its size and stamp.
func TestSend(t *testing.T) {
	l := ledger.New(3)
	var want []api.Packet
	for n := range uint64(50) {
		s := api.Stamp{Sent: 7 * n, First: n + 100, Delivered: 1000 - n, At: 3 * n, Limited: n%3 == 0}
		if got := l.Send(n*n, s); got != n {
			t.Fatalf("packet %d has the number %d", n, got)
		}
		want = append(want, api.Packet{N: n, Size: n * n, Stamp: s})
		if got := l.Out(); !slices.Equal(got, want) {
			t.Fatalf("%v are out, not %v", got, want)
		}
		switch n % 10 {
		case 4:
			if got, err := l.Ack(one(n - 1)); err != api.OK || !slices.Equal(got, want[len(want)-2:len(want)-1]) {
				t.Fatalf("Ack tells %v %d", got, err)
			}
			want = slices.Delete(want, len(want)-2, len(want)-1)
		case 9:
			if got := l.Lost(7*n, 7*n, 0); !slices.Equal(got, want) {
				t.Fatalf("Lost tells %v, not %v", got, want)
			}
			want = nil
		}
	}
}

// P8.1 (L1: Send): a size, and a stamp, of zeros, and of the greatest numbers.
func TestSendEdges(t *testing.T) {
	all := api.Stamp{Sent: greatest, First: greatest, Delivered: greatest, At: greatest, Limited: true}
	want := []api.Packet{{}, {N: 1, Size: greatest, Stamp: all}, {N: 2, Size: 1}, {N: 3, Stamp: all}}
	l := ledger.New(0)
	for _, x := range want {
		if n := l.Send(x.Size, x.Stamp); n != x.N {
			t.Errorf("packet %d has the number %d", x.N, n)
		}
	}
	if got := l.Out(); !slices.Equal(got, want) {
		t.Errorf("%v are out", got)
	}
	if got, err := l.Ack(to(0, 3)); err != api.OK || !slices.Equal(got, want) {
		t.Errorf("%v %d are acknowledged", got, err)
	}
}

// P8.1 (L1: Ack): without ranges, with one, and with many, in any order, apart, touching, overlapping, within one another, and the same.
func TestAck(t *testing.T) {
	steps(t, 9, sends(8),
		step{ack(), nil, count(0, 7), -1},
		step{ack([]api.Range{}...), nil, count(0, 7), -1},
		step{ack(one(4)), is(4), is(0, 1, 2, 3, 5, 6, 7), 4},
		step{ack(), nil, is(0, 1, 2, 3, 5, 6, 7), 4},
		step{ack(to(3, 6)), is(3, 5, 6), is(0, 1, 2, 7), 6},
		step{ack(to(0, 7)), is(0, 1, 2, 7), nil, 7},
	)
	for _, c := range []struct {
		l    []api.Range
		told []uint64
	}{
		{[]api.Range{one(0)}, is(0)},
		{[]api.Range{one(7)}, is(7)},
		{[]api.Range{to(0, 7)}, count(0, 7)},
		{[]api.Range{to(0, greatest-1)}, count(0, 7)},
		{[]api.Range{one(1), to(4, 5), one(7)}, is(1, 4, 5, 7)},                  // apart
		{[]api.Range{one(7), one(1), to(4, 5)}, is(1, 4, 5, 7)},                  // in another order
		{[]api.Range{one(7), to(4, 5), one(1)}, is(1, 4, 5, 7)},                  // from behind
		{[]api.Range{to(1, 2), one(3), to(4, 5)}, count(1, 5)},                   // touching
		{[]api.Range{to(4, 5), one(3), to(1, 2)}, count(1, 5)},                   // touching, from behind
		{[]api.Range{to(1, 4), to(3, 6)}, count(1, 6)},                           // overlapping
		{[]api.Range{to(3, 6), to(1, 4)}, count(1, 6)},                           // overlapping, from behind
		{[]api.Range{to(1, 4), to(4, 6)}, count(1, 6)},                           // overlapping in one number
		{[]api.Range{to(1, 6), to(3, 4)}, count(1, 6)},                           // within
		{[]api.Range{to(3, 4), to(1, 6)}, count(1, 6)},                           // around
		{[]api.Range{to(3, 4), to(0, greatest-1), one(3)}, count(0, 7)},          // around all
		{[]api.Range{to(3, 4), to(3, 4), one(3), one(4), to(3, 4)}, count(3, 4)}, // the same
	} {
		last := c.told[len(c.told)-1]
		rest := slices.DeleteFunc(count(0, 7), func(n uint64) bool { return slices.Contains(c.told, n) })
		steps(t, 9, sends(8),
			step{ack(c.l...), c.told, rest, int(last)},
			step{ack(c.l...), nil, rest, int(last)},
			step{ack(to(0, 7)), rest, nil, 7},
		)
	}
}

// P8.1 (L1: Ack): numbers that were never sent, not yet, or by nobody, and those that are not out any more.
func TestAckOthers(t *testing.T) {
	steps(t, 9, sends(3),
		step{ack(one(3)), nil, is(0, 1, 2), -1},
		step{ack(to(3, greatest-1)), nil, is(0, 1, 2), -1},
		step{ack(one(greatest-1), to(7, 9)), nil, is(0, 1, 2), -1},
		step{send(1, 0), nil, is(0, 1, 2, 3), -1}, // 3 is another one's now
		step{ack(one(1)), is(1), is(0, 2, 3), 1},
		step{ack(one(1)), nil, is(0, 2, 3), 1},
		step{ack(to(1, 2)), is(2), is(0, 3), 2},
		step{ack(to(1, 2), one(4)), nil, is(0, 3), 2},
		step{ack(to(2, 9)), is(3), is(0), 3},
		step{ack(to(0, 9)), is(0), nil, 3},
		step{ack(to(0, 9)), nil, nil, 3},
		step{send(1, 0), nil, is(4), 3},
		step{ack(to(0, 3), to(5, 9)), nil, is(4), 3},
		step{ack(to(0, 4)), is(4), nil, 4},
	)
}

// P8.1 (L1: Ack) and DOC.md, rules 2 and 3: a wrong range, alone and among others, ahead of them, between and behind: ErrArg, nothing is told, and the ledger is as it was.
func TestAckWrong(t *testing.T) {
	right := []api.Range{one(0), to(2, 3), to(3, 5), one(greatest - 1)}
	for _, r := range wrong() {
		for at := range len(right) + 1 {
			bad := ack(slices.Insert(slices.Clone(right), at, r)...)
			calls := []call{ack(r), bad, send(3, 4), send(4, 5), send(5, 3), ack(r, r), bad, ack(one(1)), bad, ack(r), lost(6, 2, 3), bad, send(9, 9), bad, ack(right...), bad, ack(r)}
			l, p := begin(2)
			run(t, l, p, calls)
			for _, c := range calls {
				if got := bad.do(l); got.err != api.ErrArg || len(got.l) > 0 || got.n != 0 {
					t.Fatalf("%v: %v", bad, got)
				}
				c.do(l)
			}
		}
	}
}

// P8.1 (L1: Ack, L2: Top): the top behind an Ack that takes nothing, packets below it, and above it; and behind Lost, which never changes it.
func TestTop(t *testing.T) {
	steps(t, 100, sends(10),
		step{ack(one(10)), nil, count(0, 9), -1},
		step{ack(one(0)), is(0), count(1, 9), 0}, // there is one, though it is 0
		step{ack(one(0)), nil, count(1, 9), 0},
		step{ack(one(4)), is(4), is(1, 2, 3, 5, 6, 7, 8, 9), 4},
		step{ack(one(4), one(12)), nil, is(1, 2, 3, 5, 6, 7, 8, 9), 4},
		step{ack(one(2)), is(2), is(1, 3, 5, 6, 7, 8, 9), 4},
		step{ack(one(3), one(7)), is(3, 7), is(1, 5, 6, 8, 9), 7},
		step{lost(0, 0, 1), is(1, 5, 6), is(8, 9), 7},
		step{ack(to(1, 6)), nil, is(8, 9), 7},
		step{lost(1, 9, 0), is(8, 9), nil, 7},
		step{ack(to(0, 9)), nil, nil, 7}, // 9 was not acknowledged: it was lost
		step{send(1, 0), nil, is(10), 7},
		step{ack(to(0, 99)), is(10), nil, 10},
	)
}

// DOC.md, example 3 of the nine: with a reorder of 3, and packet 4 acknowledged, packets 0 and 1 are lost.
func TestExample(t *testing.T) {
	steps(t, 3, sends(6),
		step{ack(one(4)), is(4), is(0, 1, 2, 3, 5), 4},
		step{lost(0, 1, 1), is(0, 1), is(2, 3, 5), 4},
		step{lost(0, 1, 1), nil, is(2, 3, 5), 4},
	)
}

// P8.1 (L1: Lost): a number that with the reorder is just at the top is lost, one above is not; so it is with a reorder of 0, and of the greatest numbers, where sums would run over.
func TestReorder(t *testing.T) {
	for reorder := range uint64(12) {
		for top := range uint64(10) {
			rest := slices.Delete(count(0, 9), int(top), int(top)+1)
			var gone, stay []uint64
			for _, n := range rest {
				if n+reorder <= top {
					gone = append(gone, n)
				} else {
					stay = append(stay, n)
				}
			}
			steps(t, reorder, sends(10),
				step{lost(0, 1, 1), nil, count(0, 9), -1}, // no top
				step{ack(one(top)), is(top), rest, int(top)},
				step{lost(0, 1, 1), gone, stay, int(top)},
				step{lost(0, greatest, greatest), nil, stay, int(top)},
			)
		}
	}
	for _, reorder := range []uint64{greatest, greatest - 1, greatest - 8, 1 << 63} {
		steps(t, reorder, sends(10),
			step{ack(one(9)), is(9), count(0, 8), 9},
			step{lost(0, 1, 1), nil, count(0, 8), 9},
			step{ack(one(0)), is(0), count(1, 8), 9},
			step{lost(0, greatest, greatest), nil, count(1, 8), 9},
		)
	}
}

// P8.1 (L1: Lost): without a top, a reorder of 0 takes none, and no delay does.
func TestWithoutTop(t *testing.T) {
	for _, reorder := range []uint64{0, 1, greatest} {
		steps(t, reorder, sends(4),
			step{lost(0, 0, 1), nil, count(0, 3), -1},
			step{lost(1000, 0, 1001), nil, count(0, 3), -1},
			step{ack(one(5)), nil, count(0, 3), -1},
			step{lost(1000, 0, 1001), nil, count(0, 3), -1},
			step{lost(1000, 2000, 1000), count(0, 3), nil, -1},
		)
	}
}

// P8.1 (L1: Lost): a time when it was sent that with the delay is just at now, and one above, of packets below the top, and above it; the times do not rise by numbers.
func TestDelay(t *testing.T) {
	ahead := []call{send(1, 30), send(1, 10), send(1, 20), send(1, 0), send(1, 40), send(1, 5), send(1, 10), ack(one(5))}
	steps(t, 100, ahead,
		step{lost(11, 12, 99), nil, is(0, 1, 2, 3, 4, 6), 5},
		step{lost(12, 12, 99), is(3), is(0, 1, 2, 4, 6), 5},
		step{lost(19, 10, 99), nil, is(0, 1, 2, 4, 6), 5},
		step{lost(20, 10, 99), is(1), is(0, 2, 4, 6), 5}, // 6 was sent then too
		step{lost(0, 0, 99), nil, is(0, 2, 4, 6), 5},
		step{lost(29, 0, 99), is(2), is(0, 4, 6), 5},
		step{lost(30, 0, 99), is(0), is(4, 6), 5},
		step{lost(39, 0, 99), nil, is(4, 6), 5},
		step{lost(139, 99, 130), is(4), is(6), 5},
		step{lost(1000, 0, 991), nil, is(6), 5}, // 6 is above the top
		step{send(1, 0), nil, is(6, 7), 5},
		step{ack(one(7)), is(7), is(6), 7},
		step{lost(1000, 991, 991), nil, is(6), 7},
		step{lost(1000, 990, 991), is(6), nil, 7},
	)
}

// P8.1 (L1: Lost): the same with the limit, with and without a top, below it and above.
func TestLimit(t *testing.T) {
	ahead := []call{send(1, 30), send(1, 10), send(1, 20), send(1, 0), send(1, 40), send(1, 5)}
	steps(t, 100, ahead,
		step{lost(11, 0, 12), nil, count(0, 5), -1},
		step{lost(12, 0, 12), is(3), is(0, 1, 2, 4, 5), -1},
		step{lost(14, 0, 10), nil, is(0, 1, 2, 4, 5), -1},
		step{lost(15, 0, 10), is(5), is(0, 1, 2, 4), -1},
		step{ack(one(2)), is(2), is(0, 1, 4), 2},
		step{lost(19, 99, 10), nil, is(0, 1, 4), 2},
		step{lost(20, 99, 10), is(1), is(0, 4), 2},
		step{lost(39, 99, 0), is(0), is(4), 2},
		step{lost(39, 99, 0), nil, is(4), 2},
		step{lost(40, 99, 0), is(4), nil, 2},
	)
}

// P8.1 (L1: Lost) and DOC.md, rule 10: a time whose sum with the delay, or the limit, would run over is the greatest number, and at most that is now only if it is the greatest one too.
func TestSumsRunOver(t *testing.T) {
	for _, sent := range []uint64{0, 1, 2, 1 << 63, greatest - 2, greatest - 1, greatest} {
		for _, time := range []uint64{0, 1, 2, 3, 1 << 63, greatest - 1, greatest} {
			for _, now := range []uint64{0, 1, 2, 3, 1<<63 - 1, 1 << 63, greatest - 2, greatest - 1, greatest} {
				var gone []uint64
				stay := is(0)
				if sum(sent, time) <= now {
					gone, stay = stay, gone
				}
				other, rest := is(0), is()
				if sum(sent, greatest) > now {
					other, rest = rest, other
				}
				top := []call{send(1, sent), send(1, 0), ack(one(1))}
				steps(t, 9, top, step{lost(now, time, greatest), gone, stay, 1})
				steps(t, 9, top, step{lost(now, greatest, time), gone, stay, 1})
				steps(t, 9, []call{send(1, sent)}, step{lost(now, greatest, time), gone, stay, -1})
				steps(t, 9, []call{send(1, sent)}, step{lost(now, time, greatest), other, rest, -1})
			}
		}
	}
}

// P8.1 (L1: Lost): each of the three alone is enough, and each of them takes some; they are told by rising numbers, whatever took them.
func TestThree(t *testing.T) {
	ahead := []call{send(1, 50), send(1, 90), send(1, 90), send(1, 60), send(1, 90), send(1, 70), send(1, 90), send(1, 20), send(1, 90), send(1, 21), ack(one(6))}
	steps(t, 5, ahead,
		step{lost(100, 30, 80), is(0, 1, 3, 5, 7), is(2, 4, 8, 9), 6}, // 0 and 1 are overtaken, 0, 3 and 5 are late, 7 is at its limit
		step{lost(101, 12, 80), is(9), is(2, 4, 8), 6},
		step{lost(101, 11, 80), is(2, 4), is(8), 6},
	)
}

// P8.1 and P8.2: a packet that was lost, and is acknowledged later, is told once; so is one that was acknowledged, and would be lost.
func TestLate(t *testing.T) {
	steps(t, 2, sends(5),
		step{ack(one(3)), is(3), is(0, 1, 2, 4), 3},
		step{lost(0, 1, 1), is(0, 1), is(2, 4), 3},
		step{ack(to(0, 1)), nil, is(2, 4), 3},
		step{ack(to(0, 2)), is(2), is(4), 3},
		step{lost(9, 0, 0), is(4), nil, 3},
		step{ack(one(4)), nil, nil, 3}, // the top does not rise by it
		step{lost(greatest, 0, 0), nil, nil, 3},
		step{send(1, 0), nil, is(5), 3},
		step{ack(to(0, 9)), is(5), nil, 5},
		step{lost(greatest, 0, 0), nil, nil, 5},
	)
}

// P8.1 (L2: InFlight) and DOC.md, rule 10: sizes whose sum would run over are told as the greatest number, and as less again, once they are less.
func TestInFlight(t *testing.T) {
	l := ledger.New(100)
	holds := func(want uint64) {
		t.Helper()
		if got := l.InFlight(); got != want {
			t.Fatalf("InFlight is %d, not %d", got, want)
		}
	}
	holds(0)
	for _, c := range []struct{ size, sum uint64 }{
		{0, 0}, {7, 7}, {0, 7}, {greatest - 8, greatest - 1}, {1, greatest}, {0, greatest}, {1, greatest}, {greatest, greatest}, {greatest, greatest}, {1 << 63, greatest},
	} {
		l.Send(c.size, api.Stamp{})
		holds(c.sum)
	}
	for _, c := range []struct{ n, sum uint64 }{
		{8, greatest}, {3, greatest}, {1, greatest}, {2, greatest}, {7, 1<<63 + 2}, {4, 1<<63 + 1}, {9, 1}, {0, 1}, {6, 0}, {5, 0},
	} {
		l.Ack(one(c.n))
		holds(c.sum)
	}
	for range 9 {
		l.Send(greatest, api.Stamp{})
	}
	l.Send(1, api.Stamp{Sent: 5})
	holds(greatest)
	if got := l.Clone().InFlight(); got != greatest {
		t.Errorf("a clone's InFlight is %d", got)
	}
	l.Lost(4, 4, 4)
	holds(1)
}

// some are calls of all sorts with few packets and times.
func some() []call {
	return []call{
		send(3, 2), send(greatest, 0), ack(), ack(one(0)), ack(one(1)), ack(one(2)), ack(to(1, 3)), ack(one(3), one(0)), ack(to(0, 4)), ack(to(1, 2), to(1, 0)),
		lost(0, 1, 2), lost(2, 1, 2), lost(2, 0, 1), lost(greatest, greatest, greatest),
	}
}

// P8.1: all rows of four calls of all sorts, behind some packets.
func TestCalls(t *testing.T) {
	for _, reorder := range []uint64{0, 1, 2, greatest} {
		for _, ahead := range [][]call{{}, {send(1, 0), send(2, 1), send(3, 0)}, {send(5, 2), send(7, 1), send(9, 0), send(11, 1)}} {
			rows(4, some(), func(calls []call) {
				l, p := begin(reorder)
				run(t, l, p, ahead)
				run(t, l, p, calls)
			})
		}
	}
}

// dice are numbers, the same ones each time.
type dice uint64

// roll is one below of.
func (d *dice) roll(of uint64) uint64 {
	*d = *d*6364136223846793005 + 1442695040888963407
	return uint64(*d) >> 33 % of
}

// ranges are up to three, each of them of a few numbers of which the last one is not long behind the last packet; one list of fifty is wrong.
func (d *dice) ranges(next, long uint64) []api.Range {
	l := make([]api.Range, d.roll(4))
	for i := range l {
		from := next - min(next, d.roll(long))
		l[i] = to(from, from+d.roll(8))
	}
	if d.roll(50) == 0 {
		l = append(l, to(next+1, next))
	}
	return l
}

// many is n calls of all sorts, with about so many packets out; time goes on, by and by, and packets are sent up to so much ahead of it.
func many(seed dice, n int, long, early uint64) []call {
	var l []call
	d := seed
	next, now := uint64(0), uint64(1000)
	for range n {
		now += d.roll(3)
		switch kind := d.roll(8); {
		case kind < 4:
			l = append(l, send(d.roll(2000), now-d.roll(early+1)))
			next++
		case kind < 7:
			l = append(l, ack(d.ranges(next, 2*long)...))
		default:
			l = append(l, lost(now, d.roll(long), long+d.roll(2*long)))
		}
	}
	return l
}

// P8.1: long runs, with few packets out and with many.
func TestLong(t *testing.T) {
	for seed := range dice(3) {
		for _, long := range []uint64{2, 10, 50, 300} {
			for _, reorder := range []uint64{0, 3, 40, greatest} {
				for _, early := range []uint64{0, 1, 10} {
					l, p := begin(reorder)
					run(t, l, p, many(seed, 1000, long, early))
				}
			}
		}
	}
}

// P8.2: each packet is told once at most, by Ack or by Lost; those that are out, acknowledged, and lost, are all that were sent.
func TestOnce(t *testing.T) {
	once := func(reorder uint64, calls []call) {
		l := ledger.New(reorder)
		var sent, told []bool
		for i, c := range calls {
			a := c.do(l)
			if c.name == "Send" {
				sent, told = append(sent, true), append(told, false)
				if a.n != uint64(len(sent)-1) {
					t.Fatalf("behind %v, the number is %d", calls[:i+1], a.n)
				}
			}
			for j, x := range a.l {
				if told[x.N] || j > 0 && x.N <= a.l[j-1].N {
					t.Fatalf("behind %v: %d was told, or is not in order", calls[:i+1], x.N)
				}
				told[x.N] = true
			}
			var rest []uint64
			for n := range sent {
				if !told[n] {
					rest = append(rest, uint64(n))
				}
			}
			if got := numbers(l.Out()); !slices.Equal(got, rest) {
				t.Fatalf("behind %v: %v are out, and all but %v were told", calls[:i+1], got, rest)
			}
		}
	}
	for _, reorder := range []uint64{0, 2, greatest} {
		rows(3, some(), func(calls []call) {
			once(reorder, slices.Concat([]call{send(1, 0), send(2, 2), send(3, 1), send(4, 0)}, calls, []call{ack(to(0, 2)), lost(3, 0, 2), ack(to(0, 9))}))
		})
		once(reorder, many(7, 1000, 100, 9))
	}
}

// P8.1 and DOC.md, rule 4: the list that is handed in is not written into, and what lies behind its length is neither read nor written, whether or not it may be put.
func TestListStays(t *testing.T) {
	l := []api.Range{to(9, 12), one(3), to(4, 5), to(8, 10), one(0), to(7, 6), one(greatest), one(1)}
	was := slices.Clone(l)
	for from := range l {
		for upto := from; upto <= len(l); upto++ {
			for _, packets := range []int{0, 14} {
				a, p := begin(3)
				run(t, a, p, sends(packets))
				want := p.do(ack(was[from:upto]...))
				if got := ack(l[from:upto]...).do(a); !got.same(want) {
					t.Errorf("%v: %v, not %v", l[from:upto], got, want)
				}
				hold(t, a, p)
				run(t, a, p, []call{ack(to(10, 11), one(1)), lost(1, 0, 0)})
			}
			if !slices.Equal(l, was) {
				t.Fatalf("%v: the list is %v then", was[from:upto], l)
			}
		}
	}
}

// P8.1 and DOC.md, rule 4: the list that is handed in is not kept: what is written into it later changes nothing.
func TestListIsNotKept(t *testing.T) {
	for _, packets := range []int{0, 1, 6} {
		l, p := begin(9)
		run(t, l, p, sends(packets))
		list := []api.Range{one(1), to(3, 4)}
		l.Ack(list...)
		p.do(ack(list...))
		list[0], list[1] = to(0, 9), to(7, 3)
		hold(t, l, p)
		run(t, l, p, append(sends(3), lost(0, 1, 1), ack(to(2, 3)), lost(5, 5, 5)))
	}
}

// P8.1 and DOC.md, rule 4: what Ack, Lost and Out tell shares nothing with the ledger, nor with what is told again, be it written into or longer then.
func TestToldIsNew(t *testing.T) {
	for n := range 9 {
		l, p := begin(9)
		run(t, l, p, append(sends(n), send(2, 9), send(3, 9), send(4, 0), send(5, 9)))
		first := l.Out()
		spoil(first)
		hold(t, l, p)
		other := l.Out()
		want := slices.Clone(other)
		acked := ack(to(1, 2), one(uint64(n)+3)).do(l)
		p.do(ack(to(1, 2), one(uint64(n)+3)))
		spoil(acked.l)
		hold(t, l, p)
		gone := l.Lost(1, 1, 2)
		p.do(lost(1, 1, 2))
		spoil(gone)
		hold(t, l, p)
		spoil(l.Out())
		run(t, l, p, append(sends(3), ack(to(0, 20)), lost(9, 9, 9)))
		if !slices.Equal(other, want) {
			t.Errorf("what was told is %v then, not %v", other, want)
		}
	}
}

// spoil writes into a list, and behind it.
func spoil(l []api.Packet) {
	for i := range l {
		l[i] = api.Packet{N: 77, Size: 78}
	}
	for i := range l[len(l):cap(l)] {
		l[len(l):cap(l)][i] = api.Packet{N: 79}
	}
}

// P8.1 (L2: Clone): another one with the same, which goes on apart, as the first one does; what one is told, the other does not see.
func TestClone(t *testing.T) {
	of := []call{send(3, 2), ack(one(1)), ack(to(0, 2)), ack(one(3), one(0)), ack(to(1, 0)), lost(0, 1, 2), lost(2, 1, 2), lost(2, 0, 1)}
	for _, reorder := range []uint64{0, 1, greatest} {
		rows(4, of, func(calls []call) {
			first, p := begin(reorder)
			run(t, first, p, []call{send(1, 2), send(greatest, 0), send(7, 1)})
			run(t, first, p, calls[:2])
			other, q := first.Clone(), p.clone()
			if other == first {
				t.Fatal("a clone is the ledger itself")
			}
			hold(t, other, q)
			run(t, other, q, calls[2:])
			hold(t, first, p)
			third, r := first.Clone(), p.clone()
			run(t, first, p, []call{calls[3], calls[2], send(5, 5), lost(9, 9, 9)})
			hold(t, other, q)
			hold(t, third, r)
			run(t, other, q, []call{calls[0], send(6, 6), ack(to(0, 9))})
			run(t, third, r, []call{calls[3], send(8, 1), ack(to(1, 9))})
			hold(t, first, p)
		})
	}
}

// P8.1 (L2: Clone): clones within long runs go on as the first one does, and apart.
func TestCloneLong(t *testing.T) {
	for _, long := range []uint64{5, 60, 300} {
		l, p := begin(3)
		calls := many(3, 1500, long, 2)
		for i := 0; i < len(calls); i += 100 {
			other, q := l.Clone(), p.clone()
			run(t, other, q, many(dice(i), 50, long, 2))
			hold(t, l, p)
			other, q = l.Clone(), p.clone()
			run(t, l, p, calls[i:i+100])
			hold(t, other, q)
			l, p = other, q
			run(t, l, p, calls[i:i+100])
		}
	}
}

// P2: two ledgers beside one another, each told by its own calls alone, with a third one begun between.
func TestBeside(t *testing.T) {
	of := []call{send(1, 0), send(2, 1), ack(one(0)), ack(to(0, 2)), ack(to(2, 1)), lost(1, 0, 1), lost(0, 5, 5)}
	rows(4, of, func(calls []call) {
		first, p := begin(1)
		other, q := begin(0)
		if first == other {
			t.Fatal("two ledgers are one")
		}
		run(t, first, p, sends(2))
		for i := range calls {
			run(t, first, p, calls[i:i+1])
			third, r := begin(1)
			hold(t, third, r)
			run(t, other, q, calls[len(calls)-1-i:len(calls)-i])
			hold(t, first, p)
		}
	})
}

// P2: a ledger hangs not on how often it is looked at: it tells the same if it never was, and again and again.
func TestLooking(t *testing.T) {
	of := []call{send(1, 0), ack(one(0)), ack(to(1, 2)), ack(to(2, 1)), lost(1, 0, 1), lost(0, 5, 5)}
	rows(5, of, func(calls []call) {
		l, p := begin(1)
		for _, c := range append(sends(3), calls...) {
			c.do(l)
			p.do(c)
		}
		for range 3 {
			hold(t, l, p)
		}
	})
}

// P8.1 (L2), P1 and DOC.md, rule 8: a nil ledger, at every call.
func TestNil(t *testing.T) {
	var l *ledger.Ledger
	empty := &plain{}
	for _, n := range []uint64{0, 1, 1 << 63, greatest} {
		if got := l.Send(n, stamp(n)); got != 0 {
			t.Errorf("nil: Send tells %d", got)
		}
		if got := l.Lost(n, n, n); len(got) > 0 {
			t.Errorf("nil: Lost tells %v", got)
		}
		hold(t, l, empty)
	}
	list := []api.Range{to(3, 5), one(0)}
	for _, c := range []call{ack(), ack(one(0)), ack(list...), ack(wrong()...), ack(to(0, greatest-1))} {
		if got := c.do(l); got.err != api.ErrArg || len(got.l) > 0 {
			t.Errorf("nil, %v: %v", c, got)
		}
		hold(t, l, empty)
	}
	if l != nil || l.Clone() != nil || !slices.Equal(list, []api.Range{to(3, 5), one(0)}) {
		t.Errorf("nil: the ledger is %v, its clone %v, the list %v then", l, l.Clone(), list)
	}
}

// rising is a ledger with n packets, of one byte, each sent at the time of its number.
func rising(n uint64) *ledger.Ledger {
	l := ledger.New(greatest)
	for n := range n {
		l.Send(1, api.Stamp{Sent: n})
	}
	return l
}

// told holds packets against numbers from one on, with a step between.
func told(t *testing.T, l []api.Packet, n int, from, by uint64) {
	t.Helper()
	if len(l) != n {
		t.Fatalf("%d are told, not %d", len(l), n)
	}
	for i, x := range l {
		if want := from + uint64(i)*by; x.N != want || x.Size != 1 || x.Stamp != (api.Stamp{Sent: want}) {
			t.Fatalf("%v is told, not %d", x, want)
		}
	}
}

// P8.1: a million packets, acknowledged and lost at once; every second one by ranges, and the others.
func TestMillionAtOnce(t *testing.T) {
	const n = 1000000
	l := rising(n)
	told(t, l.Out(), n, 0, 1)
	odd := make([]api.Range, n/2)
	for i := range odd {
		odd[len(odd)-1-i] = one(2*uint64(i) + 1)
	}
	acked, _ := l.Ack(odd...)
	told(t, acked, n/2, 1, 2)
	told(t, l.Out(), n/2, 0, 2)
	told(t, l.Lost(n/2-1, n, 0), n/4, 0, 2)
	told(t, l.Out(), n/4, n/2, 2)
	if got := l.InFlight(); got != n/4 {
		t.Errorf("InFlight is %d", got)
	}
	acked, _ = l.Ack(to(0, n))
	told(t, acked, n/4, n/2, 2)
	told(t, l.Out(), 0, 0, 0)
}

// P8.1: two hundred thousand packets one by one: from the first one on, from behind, from the second one on while the first one stays out, from the middle on, in no order, and as time goes on.
func TestOneByOne(t *testing.T) {
	const n = 200000
	for _, f := range []func(i uint64) uint64{
		func(i uint64) uint64 { return i },
		func(i uint64) uint64 { return n - 1 - i },
		func(i uint64) uint64 { return (i + 1) % n },
		func(i uint64) uint64 { return (i + n/2) % n },
		func(i uint64) uint64 { return i * 7 % n },
	} {
		l := rising(n)
		first := l.Clone()
		for i := range uint64(n) {
			acked, _ := l.Ack(one(f(i)))
			told(t, acked, 1, f(i), 1)
			told(t, l.Lost(5, 9, 9), 0, 0, 0)
		}
		told(t, l.Out(), 0, 0, 0)
		told(t, first.Out(), n, 0, 1)
	}
	l := rising(n)
	for now := range uint64(n) {
		told(t, l.Lost(now+9, 4, 9), 1, now, 1)
	}
	told(t, l.Out(), 0, 0, 0)
}
