package link_test

import (
	"slices"
	"testing"

	"goit/api"
	"goit/link"
)

// step is a call, what it answers (which parcels are delivered), and what the link tells then.
type step struct {
	call
	kept int
	out  []int
	err  api.Errno
	then told
}

func sends(c call, kept int, then told) step { return step{call: c, kept: kept, then: then} }

func ticks(c call, out []int, then told) step { return step{call: c, out: out, then: then} }

func fails(c call, then told) step { return step{call: c, err: api.ErrRange, then: then} }

func parcels(l ...int) []int { return l }

func bytes(came, dropped, queued, served, under, delivered uint64) link.Count {
	return link.Count{Came: came, Dropped: dropped, Queued: queued, Served: served, Under: under, Delivered: delivered}
}

func is(time uint64, count link.Count, tokens, wasted uint64) told {
	return told{time: time, count: count, tokens: tokens, wasted: wasted}
}

// due is what is told, with a next one that is due.
func (x told) due(at uint64) told {
	x.next, x.some = at, true
	return x
}

// steps holds a new link against them, one by one; the same calls are held against a plain one, so that this one is looked at as well.
func steps(t *testing.T, p api.Path, l ...step) {
	t.Helper()
	k := made(t, p)
	var calls []call
	for i, x := range l {
		calls = append(calls, x.call)
		want := answer{kept: x.kept, err: x.err}
		for _, n := range x.out {
			want.out = append(want.out, parcel(n, calls[n/10].sizes[n%10]))
		}
		if got := x.do(i, k); !got.same(want) {
			t.Fatalf("%v, step %d, %v: %v, not %v", p, i, x.call, got, want)
		}
		if got := look(k); got != x.then {
			t.Fatalf("%v, step %d, %v: %v then, not %v", p, i, x.call, got, x.then)
		}
	}
	run(t, p, calls)
}

// sides is a number at its least and its greatest, one less, one more, 0, and the greatest number.
func sides(least, most uint64) []uint64 {
	return []uint64{0, least - min(least, 1), least, least + 1, most - 1, most, most + 1, greatest}
}

// P21.1 (I1: Right, New): a path may be from the least up to the greatest of each of its numbers, and not one beyond; New tells ErrArg, and no link, where it may not be.
func TestRight(t *testing.T) {
	for _, rate := range sides(1, api.MaxRate) {
		for _, delay := range sides(0, api.Horizon) {
			for _, jitter := range sides(0, api.Horizon) {
				for _, buffer := range sides(1, api.MaxBytes) {
					p := api.Path{Rate: rate, Delay: delay, Jitter: jitter, Buffer: buffer}
					right := rate != 0 && rate <= 1<<40 && delay <= 1<<42 && jitter <= 1<<42 && buffer != 0 && buffer <= 1<<56
					if link.Right(p) != right {
						t.Errorf("%v: %t", p, !right)
					}
					l, err := link.New(p)
					if right && (l == nil || err != api.OK) || !right && (l != nil || err != api.ErrArg) {
						t.Errorf("New of %v: %v, %d", p, l, err)
					}
				}
			}
		}
	}
	// by hand: each one beyond, beside three that may be
	for _, p := range []api.Path{
		{},
		{Rate: 0, Delay: 1, Jitter: 1, Buffer: 1},
		{Rate: 1<<40 + 1, Delay: 1, Jitter: 1, Buffer: 1},
		{Rate: greatest, Delay: 1, Jitter: 1, Buffer: 1},
		{Rate: 1, Delay: 1<<42 + 1, Jitter: 1, Buffer: 1},
		{Rate: 1, Delay: greatest, Jitter: 1, Buffer: 1},
		{Rate: 1, Delay: 1, Jitter: 1<<42 + 1, Buffer: 1},
		{Rate: 1, Delay: 1, Jitter: greatest, Buffer: 1},
		{Rate: 1, Delay: 1, Jitter: 1, Buffer: 0},
		{Rate: 1, Delay: 1, Jitter: 1, Buffer: 1<<56 + 1},
		{Rate: 1, Delay: 1, Jitter: 1, Buffer: greatest},
	} {
		if l, err := link.New(p); link.Right(p) || l != nil || err != api.ErrArg {
			t.Errorf("%v: %t, New: %v, %d", p, link.Right(p), l, err)
		}
	}
	for _, p := range []api.Path{
		{Rate: 1, Delay: 0, Jitter: 0, Buffer: 1},
		{Rate: 1 << 40, Delay: 1 << 42, Jitter: 1 << 42, Buffer: 1 << 56},
		{Rate: 1500000, Delay: 20000, Jitter: 100, Buffer: 4500},
	} {
		if l, err := link.New(p); !link.Right(p) || l == nil || err != api.OK {
			t.Errorf("%v: %t, New: %v, %d", p, link.Right(p), l, err)
		}
	}
}

// P21.1 (I1: New; I2): a new link is at time 0, has no tokens, none wasted, no bytes, and no next one; it is of its path.
func TestNew(t *testing.T) {
	for _, p := range paths() {
		l := made(t, p)
		if got := look(l); got != (told{}) {
			t.Errorf("%v: %v", p, got)
		}
		if l.Path != p {
			t.Errorf("%v: of %v", p, l.Path)
		}
		if out, err := l.Tick(0, greatest, 5); len(out) != 0 || err != api.OK || look(l) != (told{}) {
			t.Errorf("%v: Tick at 0: %v, %d, and %v", p, out, err, look(l))
		}
	}
}

// P21.1 (I1: Send; I2: Count): packets, in order, as many as there is room for; each of the others is dropped by itself.
func TestSend(t *testing.T) {
	p := api.Path{Rate: 1000000, Delay: 100, Jitter: 0, Buffer: 10}
	// none, one, and many at once; just full, and a byte more
	steps(t, p,
		sends(send(), 0, is(0, bytes(0, 0, 0, 0, 0, 0), 0, 0)),
		sends(send(4), 1, is(0, bytes(4, 0, 4, 0, 0, 0), 0, 0)),
		sends(send(1, 2, 3), 3, is(0, bytes(10, 0, 10, 0, 0, 0), 0, 0)),
		sends(send(1), 0, is(0, bytes(11, 1, 10, 0, 0, 0), 0, 0)),
		sends(send(), 0, is(0, bytes(11, 1, 10, 0, 0, 0), 0, 0)),
		sends(send(0), 1, is(0, bytes(11, 1, 10, 0, 0, 0), 0, 0)), // no bytes need no room
		ticks(tick(10, 0), nil, is(10, bytes(11, 1, 0, 10, 10, 0), 0, 0).due(110)),
		ticks(tick(110, 0), parcels(10, 20, 21, 22, 50), is(110, bytes(11, 1, 0, 10, 0, 10), 100000000, 0)),
	)
	steps(t, p, sends(send(10), 1, is(0, bytes(10, 0, 10, 0, 0, 0), 0, 0)))
	steps(t, p, sends(send(11), 0, is(0, bytes(11, 11, 0, 0, 0, 0), 0, 0)))
	steps(t, p, sends(send(5, 5), 2, is(0, bytes(10, 0, 10, 0, 0, 0), 0, 0)))
	steps(t, p, sends(send(5, 6), 1, is(0, bytes(11, 6, 5, 0, 0, 0), 0, 0)))
	// one dropped between two that are not: the other ones stay in order
	steps(t, p,
		sends(send(6, 5, 4), 2, is(0, bytes(15, 5, 10, 0, 0, 0), 0, 0)),
		ticks(tick(200, 0), nil, is(200, bytes(15, 5, 0, 10, 10, 0), 190000000, 0).due(300)),
		sends(send(11, 3, 11, 7, 1), 2, is(200, bytes(48, 28, 10, 10, 10, 0), 190000000, 0).due(300)),
		ticks(tick(300, 0), parcels(0, 2), is(300, bytes(48, 28, 0, 20, 10, 10), 280000000, 0).due(400)),
		ticks(tick(400, 0), parcels(21, 23), is(400, bytes(48, 28, 0, 20, 0, 20), 380000000, 0)),
	)
	// packets without bytes, alone and among others
	steps(t, p,
		sends(send(0), 1, is(0, bytes(0, 0, 0, 0, 0, 0), 0, 0)),
		sends(send(0, 2, 0), 3, is(0, bytes(2, 0, 2, 0, 0, 0), 0, 0)),
		ticks(tick(0, 0), nil, is(0, bytes(2, 0, 2, 0, 0, 0), 0, 0).due(100)), // the first two need no tokens
		ticks(tick(100, 0), parcels(0, 10), is(100, bytes(2, 0, 0, 2, 2, 0), 98000000, 0).due(200)),
		ticks(tick(200, 0), parcels(11, 12), is(200, bytes(2, 0, 0, 2, 0, 2), 198000000, 0)),
	)
	// the greatest number of bytes
	steps(t, p,
		sends(send(greatest), 0, is(0, bytes(greatest, greatest, 0, 0, 0, 0), 0, 0)),
		sends(send(3, greatest, 7), 2, is(0, bytes(greatest, greatest, 10, 0, 0, 0), 0, 0)),
		sends(send(1), 0, is(0, bytes(greatest, greatest, 10, 0, 0, 0), 0, 0)),
		ticks(tick(10, 0), nil, is(10, bytes(greatest, greatest, 0, 10, 10, 0), 0, 0).due(110)),
	)
	steps(t, p, sends(send(greatest-5, 5), 1, is(0, bytes(greatest, greatest-5, 5, 0, 0, 0), 0, 0)))
	steps(t, p, sends(send(greatest-5, 4), 1, is(0, bytes(greatest-1, greatest-5, 4, 0, 0, 0), 0, 0)))
	steps(t, p, sends(send(greatest-5, 6), 1, is(0, bytes(greatest, greatest-5, 6, 0, 0, 0), 0, 0)))
	// room again, when something was served
	steps(t, p,
		sends(send(7, 3), 2, is(0, bytes(10, 0, 10, 0, 0, 0), 0, 0)),
		ticks(tick(9, 0), nil, is(9, bytes(10, 0, 3, 7, 7, 0), 2000000, 0).due(109)),
		sends(send(8), 0, is(9, bytes(18, 8, 3, 7, 7, 0), 2000000, 0).due(109)),
		sends(send(7), 1, is(9, bytes(25, 8, 10, 7, 7, 0), 2000000, 0).due(109)),
	)
	// the greatest buffer
	steps(t, api.Path{Rate: 1, Buffer: api.MaxBytes},
		sends(send(api.MaxBytes+1), 0, is(0, bytes(api.MaxBytes+1, api.MaxBytes+1, 0, 0, 0, 0), 0, 0)),
		sends(send(api.MaxBytes), 1, is(0, bytes(2*api.MaxBytes+1, api.MaxBytes+1, api.MaxBytes, 0, 0, 0), 0, 0)),
		sends(send(1), 0, is(0, bytes(2*api.MaxBytes+2, api.MaxBytes+2, api.MaxBytes, 0, 0, 0), 0, 0)),
	)
}

// P21.1 (I1: Tick; I2: Time; DOC.md, rule 3): at its time, and behind it, it ticks; ahead of it ErrRange, and nothing: nothing is served, wasted, or delivered then.
func TestTime(t *testing.T) {
	steps(t, api.Path{Rate: 1000000, Delay: 0, Jitter: 0, Buffer: 10},
		ticks(tick(5, 0), nil, is(5, bytes(0, 0, 0, 0, 0, 0), 5000000, 0)),
		fails(tick(4, greatest), is(5, bytes(0, 0, 0, 0, 0, 0), 5000000, 0)), // there is something to waste
		fails(tick(0, 1), is(5, bytes(0, 0, 0, 0, 0, 0), 5000000, 0)),
		ticks(tick(5, 1), nil, is(5, bytes(0, 0, 0, 0, 0, 0), 4999999, 1)),
		sends(send(2), 1, is(5, bytes(2, 0, 2, 0, 0, 0), 4999999, 1)),
		fails(tick(4, greatest, 3), is(5, bytes(2, 0, 2, 0, 0, 0), 4999999, 1)),       // there is something to serve
		ticks(tick(5, 0), parcels(40), is(5, bytes(2, 0, 0, 2, 0, 2), 2999999, 1)),    // no more tokens, at the same time
		ticks(tick(6, greatest), nil, is(6, bytes(2, 0, 0, 2, 0, 2), 0, 4000000)),     // a microsecond behind
		fails(tick(5, 0), is(6, bytes(2, 0, 0, 2, 0, 2), 0, 4000000)),                 // where it was
		ticks(tick(1000006, 0), nil, is(1000006, bytes(2, 0, 0, 2, 0, 2), 1e12, 4e6)), // far behind
		fails(tick(1000005, 0), is(1000006, bytes(2, 0, 0, 2, 0, 2), 1e12, 4e6)),      // and one ahead of that
		ticks(tick(1000006, 0), nil, is(1000006, bytes(2, 0, 0, 2, 0, 2), 1e12, 4e6)), // at it, again
		ticks(tick(1000006, 1), nil, is(1000006, bytes(2, 0, 0, 2, 0, 2), 1e12-1, 4e6+1)),
	)
	// there is something that is due ahead of its time: it was delivered with the tick that set the time; what is under way is not
	steps(t, api.Path{Rate: 1000000, Delay: 10, Jitter: 0, Buffer: 10},
		sends(send(2, 1), 2, is(0, bytes(3, 0, 3, 0, 0, 0), 0, 0)),
		ticks(tick(2, 0), nil, is(2, bytes(3, 0, 1, 2, 2, 0), 0, 0).due(12)),
		ticks(tick(11, 0), nil, is(11, bytes(3, 0, 0, 3, 3, 0), 8000000, 0).due(12)),
		fails(tick(10, greatest), is(11, bytes(3, 0, 0, 3, 3, 0), 8000000, 0).due(12)),
		ticks(tick(12, 0), parcels(0), is(12, bytes(3, 0, 0, 3, 1, 2), 9000000, 0).due(21)),
		fails(tick(11, 0), is(12, bytes(3, 0, 0, 3, 1, 2), 9000000, 0).due(21)),
	)
	// the greatest time
	steps(t, api.Path{Rate: 1, Delay: 3, Jitter: 0, Buffer: 10},
		ticks(tick(greatest-1, greatest), nil, is(greatest-1, bytes(0, 0, 0, 0, 0, 0), 0, greatest-1)),
		sends(send(0), 1, is(greatest-1, bytes(0, 0, 0, 0, 0, 0), 0, greatest-1)),
		ticks(tick(greatest-1, 0), nil, is(greatest-1, bytes(0, 0, 0, 0, 0, 0), 0, greatest-1).due(greatest)),
		fails(tick(greatest-2, 0), is(greatest-1, bytes(0, 0, 0, 0, 0, 0), 0, greatest-1).due(greatest)),
		ticks(tick(greatest, 0), parcels(10), is(greatest, bytes(0, 0, 0, 0, 0, 0), 1, greatest-1)),
		ticks(tick(greatest, 2), nil, is(greatest, bytes(0, 0, 0, 0, 0, 0), 0, greatest)),
		fails(tick(greatest-1, 0), is(greatest, bytes(0, 0, 0, 0, 0, 0), 0, greatest)),
		sends(send(0, 0), 2, is(greatest, bytes(0, 0, 0, 0, 0, 0), 0, greatest)),
		ticks(tick(greatest, 0), parcels(70, 71), is(greatest, bytes(0, 0, 0, 0, 0, 0), 0, greatest)), // due at a time that runs over, which is told as this one
	)
}

// P21.1 (I1: Tick): as many packets are served as there are tokens for, from the first one on: just enough, a millionth less, several at once, none.
func TestServe(t *testing.T) {
	// a byte a microsecond
	steps(t, api.Path{Rate: 1000000, Delay: 1000, Jitter: 0, Buffer: 100},
		sends(send(3, 4, 1, 5), 4, is(0, bytes(13, 0, 13, 0, 0, 0), 0, 0)),
		ticks(tick(0, 0), nil, is(0, bytes(13, 0, 13, 0, 0, 0), 0, 0)),
		ticks(tick(2, 0), nil, is(2, bytes(13, 0, 13, 0, 0, 0), 2000000, 0)),
		ticks(tick(3, 0), nil, is(3, bytes(13, 0, 10, 3, 3, 0), 0, 0).due(1003)),
		ticks(tick(4, 0), nil, is(4, bytes(13, 0, 10, 3, 3, 0), 1000000, 0).due(1003)), // the one behind would fit
		ticks(tick(9, 0), nil, is(9, bytes(13, 0, 5, 8, 8, 0), 1000000, 0).due(1003)),  // two at once
		ticks(tick(13, 0), nil, is(13, bytes(13, 0, 0, 13, 13, 0), 0, 0).due(1003)),
		ticks(tick(14, 0), nil, is(14, bytes(13, 0, 0, 13, 13, 0), 1000000, 0).due(1003)), // none
		ticks(tick(1003, 0), parcels(0), is(1003, bytes(13, 0, 0, 13, 10, 3), 990000000, 0).due(1009)),
		ticks(tick(1009, 0), parcels(1, 2), is(1009, bytes(13, 0, 0, 13, 5, 8), 996000000, 0).due(1013)),
	)
	// a millionth of a byte a microsecond
	steps(t, api.Path{Rate: 1, Delay: 0, Jitter: 0, Buffer: 2},
		sends(send(1, 1), 2, is(0, bytes(2, 0, 2, 0, 0, 0), 0, 0)),
		ticks(tick(999999, 0), nil, is(999999, bytes(2, 0, 2, 0, 0, 0), 999999, 0)),
		ticks(tick(1000000, 0), parcels(0), is(1000000, bytes(2, 0, 1, 1, 0, 1), 0, 0)),
		ticks(tick(1999999, 0), nil, is(1999999, bytes(2, 0, 1, 1, 0, 1), 999999, 0)),
		ticks(tick(2000001, 0), parcels(1), is(2000001, bytes(2, 0, 0, 2, 0, 2), 1, 0)),
	)
	// tokens from ahead serve what comes, but only with the next tick
	steps(t, api.Path{Rate: 1500000, Delay: 0, Jitter: 0, Buffer: 3000},
		ticks(tick(2001, 0), nil, is(2001, bytes(0, 0, 0, 0, 0, 0), 3001500000, 0)),
		sends(send(1500, 1500, 1), 2, is(2001, bytes(3001, 1, 3000, 0, 0, 0), 3001500000, 0)),
		ticks(tick(2001, 0), parcels(10, 11), is(2001, bytes(3001, 1, 0, 3000, 0, 3000), 1500000, 0)),
		sends(send(1, 1), 2, is(2001, bytes(3003, 1, 2, 3000, 0, 3000), 1500000, 0)),
		ticks(tick(2001, 0), parcels(30), is(2001, bytes(3003, 1, 1, 3001, 0, 3001), 500000, 0)),
		ticks(tick(2002, 0), parcels(31), is(2002, bytes(3003, 1, 0, 3002, 0, 3002), 1000000, 0)),
	)
	// example 8 of DOC.md: 1500 bytes, by a rate of 1500000, in a thousandth of a second
	steps(t, api.Path{Rate: 1500000, Delay: 20000, Jitter: 0, Buffer: 1500},
		sends(send(1500), 1, is(0, bytes(1500, 0, 1500, 0, 0, 0), 0, 0)),
		ticks(tick(999, 0), nil, is(999, bytes(1500, 0, 1500, 0, 0, 0), 1498500000, 0)),
		ticks(tick(1000, 0), nil, is(1000, bytes(1500, 0, 0, 1500, 1500, 0), 0, 0).due(21000)),
		ticks(tick(20999, 0), nil, is(20999, bytes(1500, 0, 0, 1500, 1500, 0), 29998500000, 0).due(21000)),
		ticks(tick(21000, 0), parcels(0), is(21000, bytes(1500, 0, 0, 1500, 0, 1500), 3e10, 0)),
	)
}

// P21.1 (I1: Tick): each served packet has the next one of choices, or 0, if there is none; those that are left over count for nobody.
func TestChoices(t *testing.T) {
	p := api.Path{Rate: 1000000, Delay: 100, Jitter: 50, Buffer: 100}
	due := func(choices []uint64, times ...uint64) {
		t.Helper()
		l := made(t, p)
		l.Send(parcel(0, 1), parcel(1, 2), parcel(2, 3))
		l.Tick(10, 0, choices...)
		for i, at := range times {
			if next, some := l.Next(); next != at || !some {
				t.Errorf("%v: the parcel %d is due at %d, %t, not %d", choices, i, next, some, at)
			}
			// the times rise, so that each comes out alone
			if out, _ := l.Tick(at-1, 0, 50); len(out) != 0 {
				t.Errorf("%v: %v ahead of %d", choices, out, at)
			}
			if out, _ := l.Tick(at, 0, 50); len(out) != 1 || out[0] != parcel(i, uint64(i)+1) {
				t.Errorf("%v: %v at %d", choices, out, at)
			}
		}
	}
	due([]uint64{1, 2, 3}, 111, 112, 113)
	due([]uint64{1, 2, 3, 4, 5}, 111, 112, 113)
	due([]uint64{48, 49, 50}, 158, 159, 160)
	due([]uint64{48, 49, 51}, 158, 159, 160)
	due([]uint64{0, 1, greatest}, 110, 111, 160)
	// fewer choices than packets: 0 for the others, which are not due ahead of the one ahead
	steps(t, p,
		sends(send(1, 1, 1, 1), 4, is(0, bytes(4, 0, 4, 0, 0, 0), 0, 0)),
		ticks(tick(1, 0), nil, is(1, bytes(4, 0, 3, 1, 1, 0), 0, 0).due(101)),
		ticks(tick(3, 0, 7), nil, is(3, bytes(4, 0, 1, 3, 3, 0), 0, 0).due(101)),
		ticks(tick(20, 0, 0, 9, 9), nil, is(20, bytes(4, 0, 0, 4, 4, 0), 16000000, 0).due(101)),
		ticks(tick(109, 0), parcels(0), is(109, bytes(4, 0, 0, 4, 3, 1), 105000000, 0).due(110)),
		ticks(tick(110, 0), parcels(1, 2), is(110, bytes(4, 0, 0, 4, 1, 3), 106000000, 0).due(120)),
		ticks(tick(120, 0), parcels(3), is(120, bytes(4, 0, 0, 4, 0, 4), 116000000, 0)),
	)
	// what is left over of a tick's choices is not the next one's
	steps(t, p,
		sends(send(1, 1, 1), 3, is(0, bytes(3, 0, 3, 0, 0, 0), 0, 0)),
		ticks(tick(1, 0, 5, 50, 50), nil, is(1, bytes(3, 0, 2, 1, 1, 0), 0, 0).due(106)),
		ticks(tick(10, 0), nil, is(10, bytes(3, 0, 0, 3, 3, 0), 7000000, 0).due(106)),
		ticks(tick(110, 0), parcels(0, 1, 2), is(110, bytes(3, 0, 0, 3, 0, 3), 107000000, 0)),
	)
	// nor are those of a tick that serves none
	steps(t, p,
		ticks(tick(1, 0, 50), nil, is(1, bytes(0, 0, 0, 0, 0, 0), 1000000, 0)),
		sends(send(1), 1, is(1, bytes(1, 0, 1, 0, 0, 0), 1000000, 0)),
		ticks(tick(1, 0), nil, is(1, bytes(1, 0, 0, 1, 1, 0), 0, 0).due(101)),
	)
	// packets that were dropped have none, those without bytes have one
	steps(t, p,
		sends(send(0, 101, 0), 2, is(0, bytes(101, 101, 0, 0, 0, 0), 0, 0)),
		ticks(tick(0, 0, 5, 6), nil, is(0, bytes(101, 101, 0, 0, 0, 0), 0, 0).due(105)),
		ticks(tick(105, 0), parcels(0), is(105, bytes(101, 101, 0, 0, 0, 0), 105000000, 0).due(106)),
		ticks(tick(106, 0), parcels(2), is(106, bytes(101, 101, 0, 0, 0, 0), 106000000, 0)),
	)
	// no jitter: choices count for nothing
	steps(t, api.Path{Rate: 1000000, Delay: 0, Jitter: 0, Buffer: 9},
		sends(send(1, 1), 2, is(0, bytes(2, 0, 2, 0, 0, 0), 0, 0)),
		ticks(tick(2, 0, greatest, 1), parcels(0, 1), is(2, bytes(2, 0, 0, 2, 0, 2), 0, 0)),
	)
}

// P21.1 (I1: Tick): waste is wasted if the queue is empty behind what was served, and no more of it than there is; else nothing is.
func TestWaste(t *testing.T) {
	p := api.Path{Rate: 1000000, Delay: 1000, Jitter: 0, Buffer: 100}
	steps(t, p,
		ticks(tick(2, 0), nil, is(2, bytes(0, 0, 0, 0, 0, 0), 2000000, 0)),
		ticks(tick(2, 1), nil, is(2, bytes(0, 0, 0, 0, 0, 0), 1999999, 1)),
		ticks(tick(2, 1999998), nil, is(2, bytes(0, 0, 0, 0, 0, 0), 1, 1999999)),
		ticks(tick(2, 2), nil, is(2, bytes(0, 0, 0, 0, 0, 0), 0, 2000000)),
		ticks(tick(2, greatest), nil, is(2, bytes(0, 0, 0, 0, 0, 0), 0, 2000000)),
		ticks(tick(3, greatest), nil, is(3, bytes(0, 0, 0, 0, 0, 0), 0, 3000000)), // by then there is more
		ticks(tick(4, 1000000), nil, is(4, bytes(0, 0, 0, 0, 0, 0), 0, 4000000)),
		ticks(tick(5, 999999), nil, is(5, bytes(0, 0, 0, 0, 0, 0), 1, 4999999)),
	)
	steps(t, p,
		sends(send(3, 2), 2, is(0, bytes(5, 0, 5, 0, 0, 0), 0, 0)),
		ticks(tick(2, greatest), nil, is(2, bytes(5, 0, 5, 0, 0, 0), 2000000, 0)),
		ticks(tick(4, greatest), nil, is(4, bytes(5, 0, 2, 3, 3, 0), 1000000, 0).due(1004)), // something was served, but one is left
		ticks(tick(6, 999999), nil, is(6, bytes(5, 0, 0, 5, 5, 0), 1, 999999).due(1004)),    // the last one was served, so it is empty
		sends(send(1), 1, is(6, bytes(6, 0, 1, 5, 5, 0), 1, 999999).due(1004)),
		ticks(tick(6, greatest), nil, is(6, bytes(6, 0, 1, 5, 5, 0), 1, 999999).due(1004)),
		ticks(tick(7, greatest), nil, is(7, bytes(6, 0, 0, 6, 6, 0), 0, 1000000).due(1004)),
		ticks(tick(1007, 0), parcels(0, 1, 40), is(1007, bytes(6, 0, 0, 6, 0, 6), 1e9, 1000000)),
	)
	// what was dropped is not in the queue; what is on its way is not, either
	steps(t, p,
		sends(send(101), 0, is(0, bytes(101, 101, 0, 0, 0, 0), 0, 0)),
		ticks(tick(1, greatest), nil, is(1, bytes(101, 101, 0, 0, 0, 0), 0, 1000000)),
		sends(send(1), 1, is(1, bytes(102, 101, 1, 0, 0, 0), 0, 1000000)),
		ticks(tick(3, greatest), nil, is(3, bytes(102, 101, 0, 1, 1, 0), 0, 2000000).due(1003)),
	)
	// a packet without bytes behind one with some waits, so that nothing is wasted; ahead of it, it goes
	steps(t, p,
		sends(send(0, 1, 0), 3, is(0, bytes(1, 0, 1, 0, 0, 0), 0, 0)),
		ticks(tick(0, greatest), nil, is(0, bytes(1, 0, 1, 0, 0, 0), 0, 0).due(1000)),
		ticks(tick(2, greatest), nil, is(2, bytes(1, 0, 0, 1, 1, 0), 0, 1000000).due(1000)),
	)
}

// P21.1 (I1: Tick; I2: Next): packets are delivered in order, just when they are due, not a microsecond ahead; with a delay of 0 in the tick that serves them.
func TestDeliver(t *testing.T) {
	for _, at := range []uint64{110, 111, 5000, greatest} {
		p := api.Path{Rate: 1000000, Delay: 100, Jitter: 50, Buffer: 100}
		l := made(t, p)
		l.Send(parcel(0, 10))
		for _, now := range []uint64{10, 10, 99, 109} {
			if out, err := l.Tick(now, 0); len(out) != 0 || err != api.OK {
				t.Errorf("%v at %d: %d", out, now, err)
			}
		}
		if next, some := l.Next(); next != 110 || !some {
			t.Errorf("due at %d, %t", next, some)
		}
		if out, err := l.Tick(at, 0); !slices.Equal(out, []api.Packet{parcel(0, 10)}) || err != api.OK {
			t.Errorf("%v at %d: %d", out, at, err)
		}
		if next, some := l.Next(); next != 0 || some {
			t.Errorf("%d is due, %t", next, some)
		}
		if out, _ := l.Tick(greatest, 0); len(out) != 0 {
			t.Errorf("%v comes again", out)
		}
	}
	// several at once, up to the first that is not due; one that would be due ahead of the one ahead waits for it
	steps(t, api.Path{Rate: 1000000, Delay: 100, Jitter: 50, Buffer: 100},
		sends(send(1, 1, 1, 1, 1), 5, is(0, bytes(5, 0, 5, 0, 0, 0), 0, 0)),
		ticks(tick(2, 0, 9, 9), nil, is(2, bytes(5, 0, 3, 2, 2, 0), 0, 0).due(111)),
		ticks(tick(3, 0, 0), nil, is(3, bytes(5, 0, 2, 3, 3, 0), 0, 0).due(111)), // not at 103
		ticks(tick(5, 0, 30, 6), nil, is(5, bytes(5, 0, 0, 5, 5, 0), 0, 0).due(111)),
		ticks(tick(110, greatest), nil, is(110, bytes(5, 0, 0, 5, 5, 0), 0, 105000000).due(111)),
		ticks(tick(111, greatest), parcels(0, 1, 2), is(111, bytes(5, 0, 0, 5, 2, 3), 0, 106000000).due(135)),
		ticks(tick(134, greatest), nil, is(134, bytes(5, 0, 0, 5, 2, 3), 0, 129000000).due(135)),
		ticks(tick(136, greatest), parcels(3, 4), is(136, bytes(5, 0, 0, 5, 0, 5), 0, 131000000)),
	)
	// no delay: what is served is delivered, and has no next one; a jitter holds it up
	steps(t, api.Path{Rate: 1000000, Delay: 0, Jitter: 2, Buffer: 100},
		sends(send(1, 1, 1), 3, is(0, bytes(3, 0, 3, 0, 0, 0), 0, 0)),
		ticks(tick(1, 0), parcels(0), is(1, bytes(3, 0, 2, 1, 0, 1), 0, 0)),
		ticks(tick(2, 0, 2), nil, is(2, bytes(3, 0, 1, 2, 1, 1), 0, 0).due(4)),
		ticks(tick(3, 0), nil, is(3, bytes(3, 0, 0, 3, 2, 1), 0, 0).due(4)),
		ticks(tick(4, 0), parcels(1, 2), is(4, bytes(3, 0, 0, 3, 0, 3), 1000000, 0)),
		sends(send(1), 1, is(4, bytes(4, 0, 1, 3, 0, 3), 1000000, 0)),
		ticks(tick(4, 0, 0), parcels(50), is(4, bytes(4, 0, 0, 4, 0, 4), 0, 0)),
	)
	// how late the tick that serves it is tells when it is due: not when there were tokens for it
	steps(t, api.Path{Rate: 1000000, Delay: 10, Jitter: 0, Buffer: 100},
		sends(send(1), 1, is(0, bytes(1, 0, 1, 0, 0, 0), 0, 0)),
		ticks(tick(500, 0), nil, is(500, bytes(1, 0, 0, 1, 1, 0), 499000000, 0).due(510)),
		ticks(tick(509, 0), nil, is(509, bytes(1, 0, 0, 1, 1, 0), 508000000, 0).due(510)),
		ticks(tick(510, 0), parcels(0), is(510, bytes(1, 0, 0, 1, 0, 1), 509000000, 0)),
	)
	// the greatest delay, and jitter
	steps(t, api.Path{Rate: 1000000, Delay: 1 << 42, Jitter: 1 << 42, Buffer: 100},
		sends(send(1), 1, is(0, bytes(1, 0, 1, 0, 0, 0), 0, 0)),
		ticks(tick(1, 0, greatest), nil, is(1, bytes(1, 0, 0, 1, 1, 0), 0, 0).due(1<<43+1)),
		ticks(tick(1<<43, greatest), nil, is(1<<43, bytes(1, 0, 0, 1, 1, 0), 0, (1<<43-1)*1000000).due(1<<43+1)),
		ticks(tick(1<<43+1, 0), parcels(0), is(1<<43+1, bytes(1, 0, 0, 1, 0, 1), 1000000, (1<<43-1)*1000000)),
	)
}

// P21.1 (I1, I2; DOC.md, rule 10): tokens, waste and times beyond the greatest number are that one.
func TestGreat(t *testing.T) {
	const most = 1 << 56
	// 2^24 microseconds give 2^64 tokens, and 2^56 bytes need more than that: both are told as 2^64 - 1
	steps(t, api.Path{Rate: 1 << 40, Delay: 5, Jitter: 0, Buffer: most},
		sends(send(most), 1, is(0, bytes(most, 0, most, 0, 0, 0), 0, 0)),
		ticks(tick(1<<24-1, greatest), nil, is(1<<24-1, bytes(most, 0, most, 0, 0, 0), 1<<64-1<<40, 0)),
		ticks(tick(1<<24, 0), nil, is(1<<24, bytes(most, 0, 0, most, most, 0), 0, 0).due(1<<24+5)),
		sends(send(most), 1, is(1<<24, bytes(2*most, 0, most, most, most, 0), 0, 0).due(1<<24+5)),
		ticks(tick(1<<26, 0), parcels(0), is(1<<26, bytes(2*most, 0, 0, 2*most, most, most), 0, 0).due(1<<26+5)),
		ticks(tick(1<<27, greatest), parcels(30), is(1<<27, bytes(2*most, 0, 0, 2*most, 0, 2*most), 0, greatest)),
		ticks(tick(1<<28, greatest), nil, is(1<<28, bytes(2*most, 0, 0, 2*most, 0, 2*most), 0, greatest)),
		ticks(tick(1<<28+1, greatest), nil, is(1<<28+1, bytes(2*most, 0, 0, 2*most, 0, 2*most), 0, greatest)),
		ticks(tick(greatest, 5), nil, is(greatest, bytes(2*most, 0, 0, 2*most, 0, 2*most), greatest-5, greatest)),
	)
	// bytes whose tokens just do not run over, and a byte more
	steps(t, api.Path{Rate: 1, Delay: 0, Jitter: 0, Buffer: most},
		sends(send(fitting, fitting+1), 2, is(0, bytes(2*fitting+1, 0, 2*fitting+1, 0, 0, 0), 0, 0)),
		ticks(tick(fitting*millionths-1, greatest), nil, is(fitting*millionths-1, bytes(2*fitting+1, 0, 2*fitting+1, 0, 0, 0), fitting*millionths-1, 0)),
		ticks(tick(fitting*millionths, greatest), parcels(0), is(fitting*millionths, bytes(2*fitting+1, 0, fitting+1, fitting, 0, fitting), 0, 0)),
		ticks(tick(greatest, greatest), nil, is(greatest, bytes(2*fitting+1, 0, fitting+1, fitting, 0, fitting), greatest-fitting*millionths, 0)),
	)
	steps(t, api.Path{Rate: 1, Delay: 0, Jitter: 0, Buffer: most},
		sends(send(fitting+1), 1, is(0, bytes(fitting+1, 0, fitting+1, 0, 0, 0), 0, 0)),
		ticks(tick(greatest-1, greatest), nil, is(greatest-1, bytes(fitting+1, 0, fitting+1, 0, 0, 0), greatest-1, 0)),
		ticks(tick(greatest, greatest), parcels(0), is(greatest, bytes(fitting+1, 0, 0, fitting+1, 0, fitting+1), 0, 0)),
	)
	// a time beyond the greatest number
	steps(t, api.Path{Rate: 1000000, Delay: 10, Jitter: 5, Buffer: 9},
		ticks(tick(greatest-12, greatest), nil, is(greatest-12, bytes(0, 0, 0, 0, 0, 0), 0, greatest)),
		sends(send(1, 1, 1), 3, is(greatest-12, bytes(3, 0, 3, 0, 0, 0), 0, greatest)),
		ticks(tick(greatest-11, 0), nil, is(greatest-11, bytes(3, 0, 2, 1, 1, 0), 0, greatest).due(greatest-1)),
		ticks(tick(greatest-9, 0, 4, 9), nil, is(greatest-9, bytes(3, 0, 0, 3, 3, 0), 0, greatest).due(greatest-1)),
		ticks(tick(greatest-1, 0), parcels(10), is(greatest-1, bytes(3, 0, 0, 3, 2, 1), 8000000, greatest).due(greatest)),
		ticks(tick(greatest, 0), parcels(11, 12), is(greatest, bytes(3, 0, 0, 3, 0, 3), 9000000, greatest)),
	)
}

// P21.1 (I2: Count; DOC.md, rule 10): sums of bytes beyond the greatest number are that one; what is on its way, which was that much, is fewer again when some of it is delivered.
func TestGreatCounts(t *testing.T) {
	const most, step, way = 1 << 56, 1 << 24, 300
	for _, size := range []uint64{most, most - 1, most/2 + 3} {
		l := made(t, api.Path{Rate: 1 << 40, Delay: way * step, Jitter: 0, Buffer: most})
		count := func(packets int) uint64 { return bounded(product(uint64(packets), size)).Uint64() }
		for i := range 1300 {
			here := min(i+1, 1000) // packets that came
			gone := max(min(i+1-way, 1000), 0)
			if i < 1000 {
				l.Send(parcel(i, size), parcel(i, most+1))
			}
			out, err := l.Tick(uint64(i+1)*step, greatest)
			if err != api.OK || gone > 0 && (len(out) != 1 || out[0] != parcel(gone-1, size)) || gone == 0 && len(out) != 0 {
				t.Fatalf("%d: Tick %d: %v, %d", size, i, out, err)
			}
			want := link.Count{
				Came:      bounded(product(uint64(here), size+most+1)).Uint64(),
				Dropped:   bounded(product(uint64(here), most+1)).Uint64(),
				Served:    count(here),
				Under:     count(here - gone),
				Delivered: count(gone),
			}
			if got := l.Count(); got != want {
				t.Fatalf("%d: behind %d: %v, not %v", size, i, got, want)
			}
		}
	}
	// on the way is the greatest number, just, and then a byte more
	l := made(t, api.Path{Rate: 1 << 40, Delay: 256 * step, Jitter: 0, Buffer: most})
	for i := range 257 {
		size, under := uint64(most), uint64(i+1)*most
		switch i {
		case 255:
			size, under = most-1, greatest
		case 256:
			size, under = 1, greatest
		}
		l.Send(parcel(i, size))
		l.Tick(uint64(i+1)*step-1, 0) // a tick ahead of all: its tokens are not lost
		l.Tick(uint64(i+1)*step, greatest)
		if i == 256 {
			under = greatest - most + 1 // the first one was delivered
		}
		if got := l.Count().Under; got != under {
			t.Fatalf("%d on the way, not %d", got, under)
		}
	}
}

// P21.1 (I1: Send, Tick): all fields of a packet are kept as they were sent, each by itself, also those of packets that are alike.
func TestFields(t *testing.T) {
	for _, p := range []api.Packet{
		{},
		{N: 1},
		{N: greatest},
		{Size: 1},
		{Size: 3},
		{Stamp: api.Stamp{Sent: 1}},
		{Stamp: api.Stamp{Sent: greatest}},
		{Stamp: api.Stamp{First: 1}},
		{Stamp: api.Stamp{First: greatest}},
		{Stamp: api.Stamp{Delivered: 1}},
		{Stamp: api.Stamp{Delivered: greatest}},
		{Stamp: api.Stamp{At: 1}},
		{Stamp: api.Stamp{At: greatest}},
		{Stamp: api.Stamp{Limited: true}},
		{N: 1, Size: 2, Stamp: api.Stamp{Sent: 3, First: 4, Delivered: 5, At: 6, Limited: true}},
		{N: greatest, Size: 0, Stamp: api.Stamp{Sent: greatest, First: greatest, Delivered: greatest, At: greatest, Limited: true}},
	} {
		l := made(t, api.Path{Rate: 1000000, Delay: 7, Jitter: 2, Buffer: 10})
		if n := l.Send(p, api.Packet{N: 9}, p); n != 3 {
			t.Errorf("%v: %d were kept", p, n)
		}
		l.Tick(10, 0, 1)
		// neither its number, nor its bytes, nor its stamp tell when it is due
		if at, some := l.Next(); at != 18 || !some {
			t.Errorf("%v: due at %d", p, at)
		}
		if out, err := l.Tick(18, 0); !slices.Equal(out, []api.Packet{p, {N: 9}, p}) || err != api.OK {
			t.Errorf("%v: %v, %d", p, out, err)
		}
	}
}

// spoil writes into a list, and behind its length.
func spoil(l []api.Packet) {
	for i := range l[:cap(l)] {
		l[:cap(l)][i] = parcel(770+i, 1)
	}
}

// P21.1 (I1: Tick; DOC.md, rule 4): what Tick told is the asker's: no change of it changes a link, or what was told elsewhere; and no call on the link changes it.
func TestListsAreNew(t *testing.T) {
	for _, n := range []int{1, 2, 3, 4, 5, 8, 9, 17} {
		l := made(t, api.Path{Rate: 1000000, Delay: 3, Jitter: 0, Buffer: 1000})
		var all [3][]api.Packet
		for turn := range 3 {
			for i := range n + turn {
				p := parcel(20*turn+i, 1)
				all[turn] = append(all[turn], p)
				l.Send(p)
			}
			l.Tick(uint64(100+turn), 0)
		}
		first, _ := l.Tick(103, 0)
		kept := slices.Clone(first)
		second, _ := l.Tick(104, 0)
		if !slices.Equal(first, kept) || !slices.Equal(first, all[0]) || !slices.Equal(second, all[1]) {
			t.Fatalf("%d packets: %v, then %v", n, first, second)
		}
		then := look(l)
		spoil(first)
		if look(l) != then || !slices.Equal(second, all[1]) {
			t.Errorf("%d packets: a change of what was told changes %v to %v, or %v", n, then, look(l), second)
		}
		spoil(second)
		l.Send(parcel(90, 1))
		third, _ := l.Tick(105, 0)
		if !slices.Equal(third, all[2]) {
			t.Errorf("%d packets: %v, not %v", n, third, all[2])
		}
	}
}

// P21.1 (I1; DOC.md, rule 4): lists that are handed in are neither written into, nor kept, and what lies behind their length is not read.
func TestHandedIn(t *testing.T) {
	l := made(t, api.Path{Rate: 1000000, Delay: 10, Jitter: 5, Buffer: 10})
	list := []api.Packet{parcel(0, 1), parcel(1, 2), parcel(2, 3), parcel(3, 4)}
	if n := l.Send(list[:2]...); n != 2 || l.Count().Came != 3 {
		t.Errorf("%d were kept, of %v", n, l.Count())
	}
	for i, p := range list {
		if p != parcel(i, uint64(i)+1) {
			t.Errorf("Send changed %v", list)
		}
	}
	spoil(list)
	choices := []uint64{3, 4, 5, 9}
	l.Tick(1, 0, choices[:1]...)
	l.Tick(4, 0, choices[2:2]...)
	if !slices.Equal(choices, []uint64{3, 4, 5, 9}) {
		t.Errorf("Tick changed %v", choices)
	}
	for i := range choices {
		choices[i] = 0
	}
	if at, some := l.Next(); at != 14 || !some {
		t.Errorf("due at %d", at)
	}
	if out, _ := l.Tick(14, 0); !slices.Equal(out, []api.Packet{parcel(0, 1), parcel(1, 2)}) {
		t.Errorf("%v", out)
	}
}

// P21.1 (I1, I2), with many packets: all of them, in order, at once and one by one, as the queue, and what is on its way, grow, stay, fall, and grow again.
func TestMany(t *testing.T) {
	const many = 100000
	l := made(t, api.Path{Rate: 1000000, Delay: many / 2, Jitter: 0, Buffer: many})
	var all []api.Packet
	for i := range many + 1 {
		all = append(all, parcel(i, 1))
	}
	if n := l.Send(all...); n != many {
		t.Fatalf("%d were kept", n)
	}
	next := 0 // the i-th packet is served at i + 1
	for now := uint64(1); now <= many+many/2; now += 1 + now%7 {
		out, err := l.Tick(now, greatest)
		if err != api.OK {
			t.Fatalf("Tick at %d: %d", now, err)
		}
		for _, p := range out {
			if p != all[next] {
				t.Fatalf("at %d: %v, not %v", now, p, all[next])
			}
			next++
		}
		served := min(now, many)
		if got := l.Count(); got != bytes(many+1, 1, many-served, served, served-uint64(next), uint64(next)) {
			t.Fatalf("at %d: %v", now, got)
		}
	}
	l.Tick(2*many, greatest)
	// all at once
	if n := l.Send(all[:many]...); n != many {
		t.Fatalf("%d were kept", n)
	}
	if out, _ := l.Tick(3*many, greatest); len(out) != 0 {
		t.Fatalf("%d came", len(out))
	}
	if out, _ := l.Tick(3*many+many/2, greatest); !slices.Equal(out, all[:many]) {
		t.Fatalf("%d came", len(out))
	}
	if got := l.Count(); got != bytes(2*many+1, 1, 0, 2*many, 0, 2*many) {
		t.Fatalf("%v", got)
	}
}

// P21.1, P1, T2: whatever a link is told: any row of calls at their edges, and mixed calls of several scales, against a plain one.
func TestAnyCalls(t *testing.T) {
	for _, p := range paths() {
		rows(3, edges(), func(l []call) { run(t, p, l) })
	}
	few := []call{send(1), send(2, 0, 2), tick(1, 0), tick(2, greatest, 1), tick(4, 1000000), tick(7, 0, 0, 2)}
	for _, p := range paths()[:3] {
		rows(5, few, func(l []call) { run(t, p, l) })
	}
	for i, s := range scales() {
		for n := range 40 {
			p, l := mixed(120, mixer(1000*i+n), s)
			run(t, p, l)
		}
	}
}

// P21.1, P1: a nil link does nothing, and answers 0, ErrArg, nothing, and false.
func TestNil(t *testing.T) {
	var l *link.Link
	for i, c := range edges() {
		want := answer{}
		if c.name == "Tick" {
			want.err = api.ErrArg
		}
		if got := c.do(i, l); !got.same(want) {
			t.Errorf("nil: %v: %v", c, got)
		}
		if got := look(l); got != (told{}) {
			t.Errorf("nil, behind %v: %v", c, got)
		}
	}
}

// P2: a link hangs on its own calls alone, not on another one's, and not on how often it is asked.
func TestOwnCallsAlone(t *testing.T) {
	few := []call{send(1, 0), send(2), tick(1, 0), tick(2, greatest, 2), tick(5, 1, 1), tick(greatest, 0)}
	rows(4, few, func(l []call) {
		one, two := paths()[1], paths()[2]
		k, other, idle := made(t, one), made(t, two), made(t, one)
		if k == other || k == idle {
			t.Fatal("two new links are one")
		}
		back := slices.Clone(l)
		slices.Reverse(back)
		for i := range l {
			back[i].do(i, other)
			look(k)
			l[i].do(i, k)
			look(other)
		}
		for _, y := range []struct {
			l *link.Link
			x *plain
		}{{k, plainly(one, l)}, {other, plainly(two, back)}, {idle, start(one)}} {
			if got := look(y.l); got != y.x.look() {
				t.Fatalf("%v beside other links: %v, not %v", l, got, y.x.look())
			}
		}
	})
}
