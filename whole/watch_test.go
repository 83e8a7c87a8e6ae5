package whole

import (
	"fmt"
	"math/bits"
	"slices"
	"testing"

	"goit/api"
	"goit/conf"
	"goit/rtt"
)

// reading is what is told of a sender, and of a link, behind a step.
type reading struct {
	time, waiting, flight, cwnd, pace               uint64
	came, dropped, queued, served, under, delivered uint64
}

// tick is how long it took, the pace, and the quantum, and the bytes that went in it.
type tick struct{ length, pace, quantum, went uint64 }

// mark is the bytes that were sent into the queue, and not dropped, up to some time; and when they were all served.
type mark struct {
	time, bytes uint64
	done        bool
	at          uint64
}

// watch holds what is told, step by step, against T3 to T5.
type watch struct {
	setup api.Conf
	path  api.Path
	ticks []tick
	marks []mark
	last  reading
}

// step holds a reading, behind a step in which so many bytes went.
func (w *watch) step(t *testing.T, r reading, went uint64) {
	t.Helper()
	w.ticks = append(w.ticks, tick{r.time - w.last.time, r.pace, conf.Quantum(w.setup, r.pace), went})
	if bad := w.envelope(); bad != "" {
		t.Fatalf("%v, %v: %s", w.setup, w.path, bad)
	}
	if r.cwnd < api.MinCwnd*w.setup.MSS || went > 0 && r.flight > r.cwnd {
		t.Fatalf("%v, %v: %d bytes went, %v", w.setup, w.path, went, r)
	}
	if w.path != (api.Path{}) {
		w.way(t, r)
	}
	w.last = r
}

// envelope holds what went between the last tick and any one ahead of it against the greatest quantum of these, and their paces times their lengths (T3); empty, if that is right.
func (w *watch) envelope() string {
	var went, earned, quantum uint64 // bytes, millionths, bytes
	for i := len(w.ticks) - 1; i >= 0; i-- {
		x := w.ticks[i]
		went, quantum = went+x.went, max(quantum, x.quantum)
		if went > quantum && (went-quantum) > earned/1000000 {
			return fmt.Sprintf("%d bytes went from tick %d to %d, with a quantum of %d, and %d millionths: %v", went, i, len(w.ticks)-1, quantum, earned, w.ticks[i:])
		}
		more, product := bits.Mul64(x.pace, x.length)
		if more > 0 || earned+product < earned {
			break
		}
		earned += product
	}
	return ""
}

// way holds a link's bytes against T4 and T5.
func (w *watch) way(t *testing.T, r reading) {
	t.Helper()
	if r.came != r.dropped+r.queued+r.served || r.served != r.under+r.delivered || r.queued > w.path.Buffer {
		t.Fatalf("%v, %v: %v", w.setup, w.path, r)
	}
	full := (w.path.Buffer*1000000 + w.path.Rate - 1) / w.path.Rate // what a full buffer needs
	for i := range w.marks {
		m := &w.marks[i]
		if !m.done && r.served >= m.bytes {
			m.done, m.at = true, r.time
		}
		if !m.done && m.time+full <= r.time || m.done && m.at+w.path.Delay+w.path.Jitter <= r.time && r.delivered < m.bytes {
			t.Fatalf("%v, %v: %v, and %v at %d", w.setup, w.path, *m, r, r.time)
		}
	}
	w.marks = slices.DeleteFunc(w.marks, func(m mark) bool { return r.delivered >= m.bytes })
	if r.queued > 0 {
		w.marks = append(w.marks, mark{time: r.time, bytes: r.served + r.queued})
	}
}

// books are what became of written bytes. Which packets are out, and which of those are lost, is worked out here, by what was told of packets alone.
type books struct {
	reorder        uint64
	written, acked uint64 // bytes
	out            []api.Packet
	top            uint64 // one above the greatest number that was acknowledged
	estimate       *rtt.RTT
	lost           int
}

// take takes those away that are out and of which f tells so.
func (b *books) take(f func(x api.Packet) bool) (l []api.Packet) {
	b.out = slices.DeleteFunc(b.out, func(x api.Packet) bool {
		gone := f(x)
		if gone {
			l = append(l, x)
		}
		return gone
	})
	return l
}

// newBooks are those of a sender that is new.
func newBooks(c api.Conf) books { return books{reorder: c.Reorder, estimate: rtt.New()} }

// ticked takes what is lost from what is out, and puts what went there.
func (b *books) ticked(now uint64, gone []api.Packet) {
	b.losses(now)
	b.out = append(b.out, gone...)
}

// acknowledged takes packets of ranges, and those that are lost then, from what is out.
func (b *books) acknowledged(now uint64, l []api.Range) {
	acked := b.take(func(x api.Packet) bool {
		return slices.ContainsFunc(l, func(r api.Range) bool { return r.From <= x.N && x.N <= r.To })
	})
	if len(acked) == 0 {
		return
	}
	last := acked[len(acked)-1]
	b.top = max(b.top, last.N+1)
	b.acked += size(acked)
	b.estimate.Put(now - last.Stamp.Sent)
	b.losses(now)
}

func (b *books) losses(now uint64) {
	delay, limit := b.estimate.Delay(), b.estimate.Limit()
	lost := b.take(func(x api.Packet) bool {
		return x.N+b.reorder < b.top || x.N+1 < b.top && x.Stamp.Sent+delay <= now || x.Stamp.Sent+limit <= now
	})
	b.lost += len(lost)
	if len(lost) > 0 && len(b.out) == 0 {
		b.estimate.Double()
	}
}

// hold holds what waits, and is in flight, against T5.
func (b *books) hold(t *testing.T, waiting, flight uint64) {
	t.Helper()
	if flight != size(b.out) || waiting+flight+b.acked != b.written {
		t.Fatalf("%d written, %d waiting, %d in flight, %d acknowledged, out %v", b.written, waiting, flight, b.acked, b.out)
	}
}

// size is the bytes of packets.
func size(l []api.Packet) (n uint64) {
	for _, x := range l {
		n += x.Size
	}
	return n
}

// mixer gives numbers in an order that shows no rule.
type mixer uint64

func (m *mixer) turn() uint64 {
	*m = *m*6364136223846793005 + 1442695040888963407
	return uint64(*m)
}

// below is a number below another one.
func (m *mixer) below(n uint64) uint64 { return m.turn() >> 20 % n }

// number is one of any length, up to most.
func (m *mixer) number(most uint64) uint64 { return m.turn() >> m.below(64) % (most + 1) }
