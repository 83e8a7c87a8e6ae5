package sender_test

import (
	"testing"

	"goit/api"
)

// limited tells whether the next packet that goes, of some that do in a tick, is limited.
func (p *pair) limited(t *testing.T, now uint64) bool {
	t.Helper()
	a := p.do(t, tick(now))
	if len(a.gone) == 0 {
		t.Fatalf("behind %v nothing goes", p.last())
	}
	return a.gone[0].Stamp.Limited
}

// P17.1 (Words: packets go): the sampler is limited if nothing waits behind those that go.
func TestLimited(t *testing.T) {
	for _, c := range []struct {
		first uint64
		want  bool
	}{{1, true}, {1500, true}, {3100, true}, {15000, true}, {15001, false}, {30000, false}} {
		p := newPair(t, setup())
		p.does(t, write(c.first))
		if p.limited(t, 1000) {
			t.Errorf("of %d bytes the first packet is limited", c.first)
		}
		p.does(t, write(30000), ack(1001, one(0)))
		if p.limited(t, 2000) != c.want {
			t.Errorf("behind %d bytes the next packet is limited: %v", c.first, !c.want)
		}
	}
}

// P17.1 (Words: packets go): so it is when nothing goes at all, by what is in flight, 0 too.
func TestLimitedIdle(t *testing.T) {
	p := newPair(t, setup())
	p.does(t, tick(999), write(30000))
	if !p.limited(t, 1000) {
		t.Error("behind a tick with nothing to send the first packet is not limited")
	}
	// a byte that was delivered ends that: it was of nothing in flight
	p.does(t, ack(1001, one(0)))
	if p.limited(t, 2000) {
		t.Error("behind the first delivered bytes a packet is limited")
	}

	// behind all that was sent: till more than that was delivered
	p = newPair(t, setup())
	p.does(t, write(4500), tick(1000), tick(2000))
	p.does(t, write(90000))
	if !p.limited(t, 2000) {
		t.Error("packet 3 is not limited")
	}
	p.does(t, ack(2500, to(0, 1)))
	if !p.limited(t, 2600) {
		t.Error("behind 3000 of 4500 bytes the next packet is not limited")
	}
	p.does(t, ack(2700, one(2)))
	if !p.limited(t, 2800) {
		t.Error("behind 4500 of 4500 bytes the next packet is not limited")
	}
	p.does(t, ack(2900, one(3)))
	if p.limited(t, 3000) {
		t.Error("behind 6000 of 4500 bytes the next packet is limited")
	}
}

// P17.1 (Words: packets go): it is not, if something waits, also when nothing goes at all.
func TestNotLimited(t *testing.T) {
	p := newPair(t, setup())
	p.does(t, write(15001), tick(1000), tick(1001), tick(2000)) // cwnd is full
	p.does(t, ack(3000, one(0)))
	if p.limited(t, 4000) {
		t.Error("with a byte that waits, packet 10 is limited")
	}
	p = newPair(t, setup())
	p.does(t, write(1500), tick(0), tick(1), tick(36)) // no credit
	if p.limited(t, 37) {
		t.Error("with a packet that waits, packet 0 is limited")
	}
	p = newPair(t, setup())
	p.does(t, tick(0), write(1500), tick(1), tick(36))
	if !p.limited(t, 37) {
		t.Error("behind a tick with nothing to send packet 0 is not limited")
	}
	// a write takes nothing back, and neither does an acknowledgement: they limit nothing
	p = newPair(t, setup())
	p.does(t, write(15000), write(1500), tick(1000), ack(1100, to(0, 9)), ack(1100, to(0, 9)))
	if p.limited(t, 1200) {
		t.Error("behind an acknowledgement packet 10 is limited")
	}
}

// P17.1 (Words: packets go): losses that wait again are something that waits.
func TestLimitedBehindLoss(t *testing.T) {
	p := newPair(t, with(func(c *api.Conf) { c.Reorder = 1 }))
	p.does(t, write(16500), tick(1000), ack(51000, one(9))) // 13500 of them wait again
	p.stands(t, 15000, 0)
	if p.limited(t, 51001) {
		t.Error("packet 10 is limited")
	}
	p.stands(t, 12000, 3000)
}
