package link_test

import (
	"math/big"
	"slices"
	"testing"

	"goit/api"
	"goit/link"
)

// mark is what was in the queue at some time: the bytes that are served once all of it is.
type mark struct {
	time, queued uint64
	served       *big.Int
}

// account is what a link is known by from outside, by packets that are sent one by one: those that were kept, how many of them were served, and delivered, and when; the bytes that came, that were dropped, served, and delivered, and the tokens that these needed, without a bound.
type account struct {
	path                           api.Path
	kept                           []api.Packet
	times                          []uint64 // when each was served
	over                           int      // how many were delivered
	came, dropped, served, arrived *big.Int
	taken, wasted                  *big.Int
	marks                          []mark
	last                           told
}

func open(p api.Path) *account {
	return &account{path: p, came: sum(), dropped: sum(), served: sum(), arrived: sum(), taken: sum(), wasted: sum()}
}

// inQueue is the bytes of what was kept, and not served.
func (a *account) inQueue() *big.Int {
	all := new(big.Int)
	for _, p := range a.kept[len(a.times):] {
		all.Add(all, large(p.Size))
	}
	return all
}

// sent notes a packet, and whether it was kept: it is, just if there is room for it.
func (a *account) sent(p api.Packet, kept bool) bool {
	size := large(p.Size)
	a.came.Add(a.came, size)
	fits := sum(a.inQueue(), size).Cmp(large(a.path.Buffer)) <= 0
	if kept {
		a.kept = append(a.kept, p)
	} else {
		a.dropped.Add(a.dropped, size)
	}
	return kept == fits
}

// ticked notes what a tick made of it: the first ones of the queue were served, as the bytes that are left tell; false, if no such ones are, or what was delivered is not the next ones, or came too early.
func (a *account) ticked(now uint64, out []api.Packet, then told) bool {
	for len(a.times) < len(a.kept) {
		p := a.kept[len(a.times)]
		if a.inQueue().Cmp(large(then.count.Queued)) == 0 && p.Size > 0 {
			break
		}
		a.served.Add(a.served, large(p.Size))
		a.taken.Add(a.taken, needs(p.Size))
		a.times = append(a.times, now)
	}
	a.wasted.Add(a.wasted, difference(large(then.wasted), large(a.last.wasted)))
	for _, p := range out {
		if a.over == len(a.times) || a.kept[a.over] != p || on(a.times[a.over], a.path.Delay) > now {
			return false
		}
		a.arrived.Add(a.arrived, large(p.Size))
		a.over++
	}
	return a.inQueue().Cmp(large(then.count.Queued)) == 0
}

// together tells whether what came was dropped, is in the queue, or was served, what was served is on its way, or was delivered, and the queue has no more than its buffer.
func (a *account) together(then told) bool {
	c := then.count
	inside := difference(difference(a.came, a.dropped), a.served)
	way := difference(a.served, a.arrived)
	all := []struct {
		told uint64
		is   *big.Int
	}{{c.Came, a.came}, {c.Dropped, a.dropped}, {c.Queued, inside}, {c.Served, a.served}, {c.Under, way}, {c.Delivered, a.arrived}}
	for _, x := range all {
		if large(x.told).Cmp(bounded(x.is)) != 0 {
			return false
		}
	}
	if c.Came < greatest && (c.Came != c.Dropped+c.Queued+c.Served || c.Served != c.Under+c.Delivered) {
		return false
	}
	return c.Queued <= a.path.Buffer && then.some == (a.over < len(a.times))
}

// conserved tells whether what was served, wasted, and is there, is the rate times the time. Where this is above the greatest number, so much has been there at least, and no more than this.
func (a *account) conserved(then told) bool {
	all := sum(a.taken, a.wasted, large(then.tokens))
	whole := product(a.path.Rate, then.time)
	return all.Cmp(whole) <= 0 && bounded(all).Cmp(bounded(whole)) == 0
}

// idle tells whether nothing was wasted by a tick, if something is in the queue behind it, and not all that it is told, or that is there, if nothing is.
func (a *account) idle(then told, waste uint64) bool {
	if len(a.times) < len(a.kept) {
		return then.wasted == a.last.wasted
	}
	return then.tokens == 0 || then.wasted == on(a.last.wasted, waste)
}

// waited tells whether all that was in the queue, at any time till now, is served if the rate has made up for its bytes since then. Bytes whose tokens run over have no such time.
func (a *account) waited(then told) bool {
	for _, m := range a.marks {
		if m.queued > fitting {
			continue
		}
		if product(a.path.Rate, then.time-m.time).Cmp(product(m.queued, millionths)) >= 0 && a.served.Cmp(m.served) < 0 {
			return false
		}
	}
	return true
}

// mark marks what is in the queue now.
func (a *account) mark(then told) {
	a.last = then
	a.marks = append(a.marks, mark{then.time, then.count.Queued, sum(a.served, large(then.count.Queued))})
	a.marks = a.marks[max(0, len(a.marks)-40):]
}

// send sends the packets of the n-th call, one by one.
func (a *account) send(t *testing.T, l *link.Link, n int, c call) {
	t.Helper()
	for _, p := range c.packets(n) {
		if kept := l.Send(p); kept > 1 || !a.sent(p, kept == 1) || !a.together(look(l)) {
			t.Fatalf("%v: Send of %v: %d, and %v behind %v", a.path, p, kept, look(l), a.last)
		}
		a.mark(look(l))
	}
}

// tick ticks, and holds what the link tells behind it against the account.
func (a *account) tick(t *testing.T, l *link.Link, c call) {
	t.Helper()
	out, err := l.Tick(c.now, c.waste, c.choices...)
	then := look(l)
	if (err != api.OK) != (c.now < a.last.time) || err != api.OK && (then != a.last || len(out) > 0) {
		t.Fatalf("%v: %v: %d, and %v behind %v", a.path, c, err, then, a.last)
	}
	if err != api.OK {
		return
	}
	if !a.ticked(c.now, out, then) || !a.together(then) || then.time != c.now {
		t.Fatalf("%v: %v: %v, and %v behind %v", a.path, c, out, then, a.last)
	}
	if !a.conserved(then) || !a.idle(then, c.waste) || !a.waited(then) {
		t.Fatalf("%v: %v: %v behind %v, with %d taken, %d wasted", a.path, c, then, a.last, a.taken, a.wasted)
	}
	a.mark(then)
}

// envelope holds a link, behind each of some calls, against its account; then all that is in it comes out.
func envelope(t *testing.T, p api.Path, l []call) {
	t.Helper()
	k, a := made(t, p), open(p)
	for i, c := range l {
		if c.name == "Send" {
			a.send(t, k, i, c)
		} else {
			a.tick(t, k, c)
		}
	}
	now := a.last.time
	for range 40 { // what is in the queue may need more tokens than there can be at once
		now = on(now, greatest/50)
		a.tick(t, k, tick(now, 3))
	}
	a.tick(t, k, tick(greatest, greatest))
	if then := look(k); then.count.Under != 0 || then.some || then.count.Queued == 0 && a.over != len(a.kept) {
		t.Fatalf("%v, behind %v: %v at last", p, l, then)
	}
}

// P21.2, P21.3, P1, T2, T4: in any row of calls, whatever is wasted and chosen, a path keeps its envelope, and nothing in its queue waits too long.
func TestEnvelope(t *testing.T) {
	few := []call{send(1), send(2, 0, 2), send(greatest), tick(1, 0), tick(2, greatest, 1), tick(4, 1000000, greatest, 0), tick(7, 0, 0, 2)}
	for _, p := range paths()[:4] {
		rows(4, few, func(l []call) { envelope(t, p, l) })
	}
	for _, p := range paths() {
		rows(2, edges(), func(l []call) { envelope(t, p, l) })
	}
	for i, s := range scales() {
		for n := range 40 {
			p, l := mixed(120, mixer(70000+1000*i+n), s)
			envelope(t, p, l)
		}
	}
}

// P21.2: one who ticks each microsecond sees what is served be just what the rate, and what was not wasted, allow, and each packet come out just when it is due.
func TestEachMicrosecond(t *testing.T) {
	for i, p := range []api.Path{
		{Rate: 1000000, Delay: 0, Jitter: 0, Buffer: 9},
		{Rate: 1500000, Delay: 20, Jitter: 0, Buffer: 9},
		{Rate: 700001, Delay: 20, Jitter: 9, Buffer: 30},
		{Rate: 3000000, Delay: 0, Jitter: 5, Buffer: 4},
	} {
		l, m := made(t, p), mixer(i)
		var kept, dues []uint64
		served, came, time := uint64(0), 0, uint64(0)
		for now := range uint64(3000) {
			if now < 2900 && m.one(3) == 0 {
				size := m.number(5)
				if l.Send(parcel(len(kept), size)) == 1 {
					kept = append(kept, size)
				}
			}
			choice := m.choice(p.Jitter)
			out, _ := l.Tick(now, m.number(greatest), slices.Repeat([]uint64{choice}, 40)...)
			// one without bytes is served as soon as it is the first one
			for len(dues) < len(kept) && (served < l.Count().Served || kept[len(dues)] == 0) {
				time = max(time, now+p.Delay+min(choice, p.Jitter))
				served += kept[len(dues)]
				dues = append(dues, time)
			}
			for _, x := range out {
				if x != parcel(came, kept[came]) || dues[came] != now {
					t.Fatalf("%v: at %d: %v, due at %d", p, now, x, dues[came])
				}
				came++
			}
			tokens, wasted := l.Tokens()
			if served*millionths+tokens+wasted != p.Rate*now || served != l.Count().Served {
				t.Fatalf("%v: at %d: %d served, %d tokens, %d wasted", p, now, served, tokens, wasted)
			}
		}
		if came != len(kept) || came < 500 {
			t.Errorf("%v: %d of %d came", p, came, len(kept))
		}
	}
}

// P21.3, T4: what is in the queue is served in a tick as much later as its bytes need at the rate, and not a microsecond ahead if there were no tokens, whatever is wasted, and comes behind; that is no longer than a full buffer needs.
func TestWait(t *testing.T) {
	for _, p := range []api.Path{
		{Rate: 1000000, Buffer: 20},
		{Rate: 700001, Buffer: 20},
		{Rate: 3, Buffer: 5},
		{Rate: 1, Buffer: 1000000},
		{Rate: 1500000, Buffer: 30000},
		{Rate: 999999999, Buffer: 1 << 40},
		{Rate: api.MaxRate, Buffer: fitting},
	} {
		for _, bytes := range []uint64{1, 2, 3, p.Buffer / 2, p.Buffer - 1, p.Buffer} {
			for _, from := range []uint64{0, 1, 77777} {
				wait := bounded(product(bytes, millionths)).Uint64()
				wait = (wait-1)/p.Rate + 1
				if most := (p.Buffer*millionths-1)/p.Rate + 1; wait > most {
					t.Fatalf("%v: %d bytes need %d, and a full buffer %d", p, bytes, wait, most)
				}
				for _, parts := range [][]uint64{{bytes}, {1, bytes - 1}, {bytes / 2, 0, bytes - bytes/2}} {
					l := made(t, p)
					l.Tick(from, greatest) // it has no tokens
					for i, size := range parts {
						l.Send(parcel(i, size))
					}
					if c := l.Count(); c.Queued != bytes {
						t.Fatalf("%v: %v are in the queue", p, c)
					}
					// in between there are ticks that would waste all, and packets come
					for k := range uint64(3) {
						now := from + wait/4*k
						l.Tick(min(now, from+wait-1), greatest)
						l.Send(parcel(50, 1), parcel(51, p.Buffer))
					}
					if l.Tick(from+wait-1, greatest); l.Count().Served >= bytes {
						t.Errorf("%v: %v of %d, from %d on, are served ahead of %d", p, parts, bytes, from, wait)
					}
					l.Send(parcel(52, 1))
					if l.Tick(from+wait, greatest); l.Count().Served < bytes {
						t.Errorf("%v: %v of %d, from %d on, are not served behind %d: %v", p, parts, bytes, from, wait, l.Count())
					}
				}
			}
		}
	}
}

// P21.2: what comes out is what was kept, in order, each once, with choices that would turn it round.
func TestInOrder(t *testing.T) {
	p := api.Path{Rate: 1000000, Delay: 10, Jitter: 1000, Buffer: 50}
	l := made(t, p)
	var kept, came []api.Packet
	for i := range 2000 {
		x := parcel(i, uint64(i%4))
		if l.Send(x) == 1 {
			kept = append(kept, x)
		}
		out, _ := l.Tick(uint64(i), 0, uint64(2000-i), uint64(1999-i))
		came = append(came, out...)
	}
	for now := uint64(2000); now < 6000; now += 3 {
		out, _ := l.Tick(now, 5, 0)
		came = append(came, out...)
	}
	if !slices.Equal(came, kept) || len(kept) == 2000 || len(kept) < 1000 {
		t.Errorf("%d were kept, %d came", len(kept), len(came))
	}
}
