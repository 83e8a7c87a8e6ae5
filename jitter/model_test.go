package jitter_test

import (
	"fmt"
	"math"
	"math/big"
	"slices"
	"testing"

	"goit/api"
	"goit/jitter"
)

const greatest = math.MaxUint64 // the greatest number

// parcel is a packet whose fields are all its own.
func parcel(n int) api.Packet {
	x := uint64(n)
	return api.Packet{N: x + 1, Size: 11*x + 6, Stamp: api.Stamp{Sent: 7*x + 2, First: 5*x + 3, Delivered: greatest - x, At: 3*x + 4, Limited: n%3 == 1}}
}

// parcels are those with numbers.
func parcels(l ...int) []api.Packet {
	var all []api.Packet
	for _, n := range l {
		all = append(all, parcel(n))
	}
	return all
}

// call is one that may change a box: Put, at a time, with a choice, or Out, at a time.
type call struct {
	name        string
	now, choice uint64
}

func put(now, choice uint64) call { return call{"Put", now, choice} }

func out(now uint64) call { return call{"Out", now, 0} }

// answer is what a call answers: when a packet is due, or those that come out.
type answer struct {
	due uint64
	out []api.Packet
}

// same tells whether two answers are; a list of none may be nil or not.
func (x answer) same(y answer) bool { return x.due == y.due && slices.Equal(x.out, y.out) }

// do makes the n-th call on a box: what it puts is the n-th packet.
func (c call) do(n int, b *jitter.Box) answer {
	if c.name == "Put" {
		return answer{due: b.Put(parcel(n), c.now, c.choice)}
	}
	return answer{out: b.Out(c.now)}
}

// told is all that a box tells.
type told struct {
	next uint64
	some bool
	len  int
	all  []api.Packet
}

func look(b *jitter.Box) told {
	x := told{len: b.Len(), all: b.All()}
	x.next, x.some = b.Next()
	return x
}

// same tells whether two boxes told the same.
func (x told) same(y told) bool {
	return x.next == y.next && x.some == y.some && x.len == y.len && slices.Equal(x.all, y.all)
}

// plain is a box as the words say it: all that was put into it, each with its own time, which is summed without a bound; and how many of these came out.
type plain struct {
	delay, jitter uint64
	put           []api.Packet
	times         []*big.Int
	gone          int
}

func start(delay, jitter uint64) *plain { return &plain{delay: delay, jitter: jitter} }

func large(x uint64) *big.Int { return new(big.Int).SetUint64(x) }

// sum is that of numbers, without a bound.
func sum(l ...uint64) *big.Int {
	all := new(big.Int)
	for _, x := range l {
		all.Add(all, large(x))
	}
	return all
}

// bounded is a number, or the greatest one, if it is above that.
func bounded(x *big.Int) uint64 {
	if !x.IsUint64() {
		return greatest
	}
	return x.Uint64()
}

// due is when the i-th that was put is due: the greatest of its own time, and of those of all ahead of it.
func (x *plain) due(i int) uint64 {
	most := x.times[0]
	for _, t := range x.times[:i+1] {
		if t.Cmp(most) > 0 {
			most = t
		}
	}
	return bounded(most)
}

// do is the n-th call.
func (x *plain) do(n int, c call) answer {
	if c.name == "Put" {
		late := c.choice
		if late > x.jitter {
			late = x.jitter
		}
		x.put = append(x.put, parcel(n))
		x.times = append(x.times, sum(c.now, x.delay, late))
		return answer{due: x.due(len(x.put) - 1)}
	}
	var l []api.Packet
	for x.gone < len(x.put) && x.due(x.gone) <= c.now {
		l = append(l, x.put[x.gone])
		x.gone++
	}
	return answer{out: l}
}

// look is what it should tell.
func (x *plain) look() told {
	y := told{len: len(x.put) - x.gone, all: slices.Clone(x.put[x.gone:])}
	if y.len > 0 {
		y.next, y.some = x.due(x.gone), true
	}
	return y
}

// setup is a box's delay, and its jitter.
type setup struct{ delay, jitter uint64 }

func (s setup) box() *jitter.Box { return jitter.New(s.delay, s.jitter) }

// plainly is a plain box, behind calls.
func (s setup) plainly(l []call) *plain {
	x := start(s.delay, s.jitter)
	for i, c := range l {
		x.do(i, c)
	}
	return x
}

// run makes calls on a new box, and holds what each answers, and what it tells behind that, against a plain one. It asks twice: asking changes nothing.
func run(t *testing.T, s setup, l []call) {
	t.Helper()
	b, x := s.box(), start(s.delay, s.jitter)
	for i, c := range l {
		got, want := c.do(i, b), x.do(i, c)
		if !got.same(want) {
			t.Fatalf("%v, behind %v: %v, not %v", s, l[max(0, i-9):i+1], got, want)
		}
		if got, again, want := look(b), look(b), x.look(); !got.same(want) || !again.same(want) {
			t.Fatalf("%v, behind %v: %v, then %v, not %v", s, l[max(0, i-9):i+1], got, again, want)
		}
	}
}

// rows calls f with all rows of up to n of some calls.
func rows(n int, of []call, f func(l []call)) {
	l := make([]call, 0, n)
	var grow func()
	grow = func() {
		f(l)
		if len(l) == n {
			return
		}
		for _, c := range of {
			l = append(l, c)
			grow()
			l = l[:len(l)-1]
		}
	}
	grow()
}

// setups are delays and jitters, at the edges and between.
func setups() []setup {
	return []setup{{0, 0}, {0, 1}, {1, 0}, {1, 1}, {2, 3}, {0, greatest}, {greatest, 0}, {greatest, greatest}, {1 << 63, 1 << 63}, {greatest - 2, 1}, {1, greatest - 2}}
}

// edges are calls at theirs.
func edges() []call {
	return []call{put(0, 0), put(0, 1), put(1, 0), put(0, greatest), put(greatest-1, 1), put(greatest, greatest), out(0), out(1), out(greatest - 1), out(greatest)}
}

// mixer gives numbers in an order that shows no rule.
type mixer uint64

func (m *mixer) turn() uint64 {
	*m = *m*6364136223846793005 + 1442695040888963407
	return uint64(*m)
}

// one is one of n, each as often.
func (m *mixer) one(n int) int { return int(m.turn() >> 33 % uint64(n)) }

// number is one of any length, up to most.
func (m *mixer) number(most uint64) uint64 {
	x := m.turn() >> m.one(64)
	if most == greatest {
		return x
	}
	return x % (most + 1)
}

// choice is one beside a jitter, or at it, or any.
func (m *mixer) choice(jitter uint64) uint64 {
	switch m.one(8) {
	case 0:
		return jitter
	case 1:
		return jitter - min(jitter, 1)
	case 2:
		return min(jitter, greatest-1) + 1
	case 3:
		return 0
	case 4:
		return m.number(greatest)
	}
	return m.number(jitter)
}

// call is one behind calls that made a plain box, at a time.
func (m *mixer) call(x *plain, now uint64) call {
	next := x.look().next
	switch m.one(10) {
	case 0:
		return out(next)
	case 1:
		return out(next - min(next, 1))
	case 2:
		return out(min(next, greatest-1) + 1)
	case 3, 4:
		return out(now)
	}
	return put(now, m.choice(x.jitter))
}

// scale is how great a delay, a jitter, and what goes on at once are at most, and when time begins; back tells whether it may go back.
type scale struct {
	delay, jitter, after, from uint64
	back                       bool
}

func scales() []scale {
	return []scale{
		{3, 3, 2, 0, false},
		{10000, 500, 300, 0, false},
		{40, 9000, 300, 77, true},
		{10, 5, 5, 0, true},
		{1 << 42, 1 << 42, 1 << 36, 5, false},
		{greatest, greatest, greatest, 0, true},
		{greatest, 9, 3, 0, false},
		{5, greatest, 1 << 60, 0, false},
		{40, 40, 2, greatest - 300, false},
		{40, 40, 30, greatest - 300, true},
	}
}

// on is the time behind one, or one ahead of it.
func (m *mixer) on(now uint64, s scale) uint64 {
	if s.back && m.one(4) == 0 {
		return now - min(now, m.number(s.after))
	}
	return bounded(sum(now, m.number(s.after)))
}

// mixed is a box of some scale, and n calls.
func mixed(n int, seed mixer, s scale) (setup, []call) {
	x := start(seed.number(s.delay), seed.number(s.jitter))
	now, l := s.from, []call(nil)
	for i := range n {
		if seed.one(3) > 0 {
			now = seed.on(now, s)
		}
		c := seed.call(x, now)
		x.do(i, c)
		l = append(l, c)
	}
	return setup{x.delay, x.jitter}, l
}

func (c call) String() string {
	if c.name == "Put" {
		return fmt.Sprint("Put at ", c.now, ", ", c.choice)
	}
	return fmt.Sprint("Out at ", c.now)
}
