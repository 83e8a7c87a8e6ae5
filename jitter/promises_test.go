package jitter_test

import (
	"slices"
	"testing"

	"goit/api"
	"goit/jitter"
)

// trip is a packet, when it was put, and when it is due, as Put told.
type trip struct {
	packet   api.Packet
	now, due uint64
}

// account is what a box is known by from outside: its trips, in order, and how many of these are over.
type account struct {
	setup
	trips []trip
	over  int
}

// note is what the n-th call, and its answer, make of it; false, if something came out that is not the next one, or not due, or if something that is due did not.
func (a *account) note(n int, c call, got answer) bool {
	if c.name == "Put" {
		a.trips = append(a.trips, trip{parcel(n), c.now, got.due})
		return true
	}
	for _, p := range got.out {
		if a.over == len(a.trips) || a.trips[a.over].packet != p || a.trips[a.over].due > c.now {
			return false
		}
		a.over++
	}
	return a.over == len(a.trips) || a.trips[a.over].due > c.now
}

// kept tells whether what is in the box is what did not come out, in order, and the first one is next when it is due.
func (a *account) kept(then told) bool {
	left := a.trips[a.over:]
	var in []api.Packet
	for _, x := range left {
		in = append(in, x.packet)
	}
	if len(left) > 0 && then.next != left[0].due {
		return false
	}
	return then.some == (len(left) > 0) && then.len == len(left) && slices.Equal(then.all, in)
}

// ordered tells whether packets are due in order, each not ahead of the delay behind its time.
func (a *account) ordered() bool {
	for i, x := range a.trips {
		if x.due < bounded(sum(x.now, a.delay)) || i > 0 && x.due < a.trips[i-1].due {
			return false
		}
	}
	return true
}

// soon tells whether each is due at most by the jitter later.
func (a *account) soon() bool {
	for _, x := range a.trips {
		if large(x.due).Cmp(sum(x.now, a.delay, a.jitter)) > 0 {
			return false
		}
	}
	return true
}

// late holds a box, behind each of some calls, against its account; on tells whether their time goes on. Then all that is in it comes out at the greatest time.
func late(t *testing.T, s setup, l []call, on bool) {
	t.Helper()
	b, a := s.box(), &account{setup: s}
	for i, c := range l {
		if got := c.do(i, b); !a.note(i, c, got) {
			t.Fatalf("%v, behind %v: %v, with %v, of which %d are over", s, l[max(0, i-9):i+1], got, a.trips, a.over)
		}
		if then := look(b); !a.kept(then) || !a.ordered() || on && !a.soon() {
			t.Fatalf("%v, behind %v: %v, with %v, of which %d are over", s, l[max(0, i-9):i+1], then, a.trips, a.over)
		}
	}
	if last := out(greatest); !a.note(0, last, last.do(0, b)) || a.over != len(a.trips) || !a.kept(look(b)) {
		t.Fatalf("%v, behind %v, and all out: %v, with %v, of which %d are over", s, l, look(b), a.trips, a.over)
	}
}

// forth is calls whose times are how much goes on ahead of each, from a time on.
func forth(from uint64, l []call) []call {
	now, all := from, make([]call, len(l))
	for i, c := range l {
		now = bounded(sum(now, c.now))
		all[i] = call{c.name, now, c.choice}
	}
	return all
}

// P20.2: with times that go on, a packet comes out in order, not ahead of the delay behind its time, and is due at most by the jitter later: in any row of puts and outs.
func TestLateNotTooLate(t *testing.T) {
	few := []call{put(0, 0), put(0, greatest), put(1, 0), put(1, 1), put(3, 2), out(0), out(1), out(4)}
	for _, s := range []setup{{0, 0}, {0, 1}, {1, 0}, {2, 3}, {3, 2}, {0, greatest}, {greatest, 0}} {
		for _, from := range []uint64{0, greatest - 6} {
			rows(4, few, func(l []call) { late(t, s, forth(from, l), true) })
		}
	}
	for i, s := range scales() {
		for n := range 40 {
			x, l := mixed(150, mixer(50000+1000*i+n), s)
			// Out may be asked at any time, and only what is put has to go on.
			late(t, x, l, !s.back)
		}
	}
}

// P20.2: with times that go back a packet still comes out in order, and not ahead of the delay behind its time; it may be due later than by the jitter, as the one ahead of it is.
func TestBack(t *testing.T) {
	for _, s := range []setup{{0, 0}, {0, 1}, {1, 0}, {2, 3}, {greatest - 1, 2}} {
		rows(5, []call{put(0, 0), put(1, 3), put(2, 0), put(7, 1), out(2), out(8)}, func(l []call) { late(t, s, l, false) })
	}
	b := jitter.New(100, 10)
	if a, z := b.Put(parcel(0), 500, 0), b.Put(parcel(1), 0, 0); a != 600 || z != 600 {
		t.Errorf("due at %d, and %d", a, z)
	}
}

// P20.2: one who looks each microsecond sees each packet come out just when it is due, in order, at least the delay, and at most the jitter more, behind its time.
func TestEachMicrosecond(t *testing.T) {
	for i, s := range []setup{{0, 0}, {0, 1}, {1, 0}, {1, 1}, {50, 0}, {0, 50}, {50, 20}, {20, 50}} {
		b, m := s.box(), mixer(i)
		var times, dues []uint64 // of all that was put
		came, least, most := 0, uint64(greatest), uint64(0)
		for now := range uint64(3000) {
			for range max(m.one(60), 57) - 57 { // few, so that not all wait for one that is late
				if now >= 2900 {
					break
				}
				dues = append(dues, b.Put(parcel(len(times)), now, m.choice(s.jitter)))
				times = append(times, now)
			}
			for _, p := range b.Out(now) {
				took := now - times[came]
				if p != parcel(came) || now != dues[came] || took < s.delay || took > s.delay+s.jitter {
					t.Fatalf("%v: at %d %v comes out, put at %d, due at %d", s, now, p, times[came], dues[came])
				}
				came, least, most = came+1, min(least, took), max(most, took)
			}
		}
		if came != len(times) || b.Len() != 0 || least != s.delay || most != s.delay+s.jitter {
			t.Errorf("%v: %d of %d came out, behind %d to %d microseconds", s, came, len(times), least, most)
		}
	}
}
