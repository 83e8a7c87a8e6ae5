package queue_test

import (
	"fmt"
	"math"
	"math/big"
	"slices"
	"testing"

	"goit/api"
	"goit/queue"
)

const greatest = math.MaxUint64 // the greatest number

// parcel is a packet of so many bytes, whose other fields are all its own.
func parcel(n int, size uint64) api.Packet {
	x := uint64(n)
	return api.Packet{N: x + 1, Size: size, Stamp: api.Stamp{Sent: 7*x + 2, First: 5*x + 3, Delivered: greatest - x, At: 3*x + 4, Limited: n%3 == 1}}
}

// call is one that may change a queue: Put, of so many bytes, or Shift.
type call struct {
	name string
	size uint64
}

func put(size uint64) call { return call{"Put", size} }

func shift() call { return call{"Shift", 0} }

// answer is what a call answers.
type answer struct {
	packet api.Packet
	ok     bool
}

// do makes the n-th call on a queue: what it puts is the n-th packet.
func (c call) do(n int, q *queue.Queue) answer {
	if c.name == "Put" {
		return answer{ok: q.Put(parcel(n, c.size))}
	}
	p, ok := q.Shift()
	return answer{p, ok}
}

// told is all that a queue tells.
type told struct {
	head                 answer
	all                  []api.Packet
	bytes, dropped, lost uint64
}

func look(q *queue.Queue) told {
	p, ok := q.Head()
	x := told{head: answer{p, ok}, all: q.All(), bytes: q.Bytes()}
	x.dropped, x.lost = q.Dropped()
	return x
}

// same tells whether two queues told the same; what is behind the lists' lengths is nobody's.
func (x told) same(y told) bool {
	return x.head == y.head && slices.Equal(x.all, y.all) && x.bytes == y.bytes && x.dropped == y.dropped && x.lost == y.lost
}

// plain is a queue as the words say it: lists of packets, whose bytes are summed without a bound.
type plain struct {
	room       uint64
	in, behind []api.Packet // those that are in it, and those that were dropped
}

func start(room uint64) *plain { return &plain{room: room} }

func large(x uint64) *big.Int { return new(big.Int).SetUint64(x) }

// sum is the bytes of packets.
func sum(l ...api.Packet) *big.Int {
	all := new(big.Int)
	for _, p := range l {
		all.Add(all, large(p.Size))
	}
	return all
}

// bounded is a number, or the greatest one, if it is above that.
func bounded(x *big.Int) uint64 {
	if !x.IsUint64() {
		return greatest
	}
	return x.Uint64()
}

// do is the n-th call.
func (x *plain) do(n int, c call) answer {
	switch {
	case c.name == "Put":
		p := parcel(n, c.size)
		if sum(append(slices.Clone(x.in), p)...).Cmp(large(x.room)) > 0 {
			x.behind = append(x.behind, p)
			return answer{}
		}
		x.in = append(x.in, p)
		return answer{ok: true}
	case len(x.in) == 0:
		return answer{}
	}
	p := x.in[0]
	x.in = slices.Clone(x.in[1:])
	return answer{p, true}
}

// left is the bytes that there is room for.
func (x *plain) left() uint64 { return new(big.Int).Sub(large(x.room), sum(x.in...)).Uint64() }

// look is what it should tell.
func (x *plain) look() told {
	y := told{all: slices.Clone(x.in), bytes: sum(x.in...).Uint64(), dropped: uint64(len(x.behind)), lost: bounded(sum(x.behind...))}
	if len(x.in) > 0 {
		y.head = answer{x.in[0], true}
	}
	return y
}

// plainly is a plain queue with a room, behind calls.
func plainly(room uint64, l []call) *plain {
	x := start(room)
	for i, c := range l {
		x.do(i, c)
	}
	return x
}

// run makes calls on a new queue, and holds what each answers, and what it tells behind that, against a plain one. It asks twice: asking changes nothing.
func run(t *testing.T, room uint64, l []call) {
	t.Helper()
	q, x := queue.New(room), start(room)
	for i, c := range l {
		got, want := c.do(i, q), x.do(i, c)
		if got != want {
			t.Fatalf("room %d, behind %v: %v, not %v", room, l[max(0, i-9):i+1], got, want)
		}
		if got, again, want := look(q), look(q), x.look(); !got.same(want) || !again.same(want) {
			t.Fatalf("room %d, behind %v: %v, then %v, not %v", room, l[max(0, i-9):i+1], got, again, want)
		}
	}
}

// rows calls f with all rows of up to n of some calls.
func rows(n int, of []call, f func(l []call)) {
	l := make([]call, 0, n)
	var grow func()
	grow = func() {
		f(l)
		if len(l) == n {
			return
		}
		for _, c := range of {
			l = append(l, c)
			grow()
			l = l[:len(l)-1]
		}
	}
	grow()
}

// rooms are some, at the edges and between.
func rooms() []uint64 {
	return []uint64{0, 1, 2, 3, 5, 1 << 63, greatest - 1, greatest}
}

// edges are calls at theirs.
func edges() []call {
	return []call{put(0), put(1), put(2), put(1 << 63), put(greatest - 1), put(greatest), shift()}
}

// mixer gives numbers in an order that shows no rule.
type mixer uint64

func (m *mixer) turn() uint64 {
	*m = *m*6364136223846793005 + 1442695040888963407
	return uint64(*m)
}

// one is one of n, each as often.
func (m *mixer) one(n int) int { return int(m.turn() >> 33 % uint64(n)) }

// number is one of any length, up to most.
func (m *mixer) number(most uint64) uint64 {
	x := m.turn() >> m.one(64)
	if most == greatest {
		return x
	}
	return x % (most + 1)
}

// call is one behind calls that made a plain queue: packets of some size at most, or just as great as what is left, or one beside that.
func (m *mixer) call(x *plain, size uint64) call {
	left := x.left()
	switch m.one(12) {
	case 0:
		return put(left)
	case 1:
		return put(left - min(left, 1))
	case 2:
		return put(min(left, greatest-1) + 1)
	case 3:
		return put(m.number(greatest))
	case 4, 5, 6, 7, 8:
		return put(m.number(size))
	}
	return shift()
}

// scale is how great a room, and packets, are at most.
type scale struct{ room, size uint64 }

func scales() []scale {
	return []scale{{5, 3}, {3000, 1500}, {100000, 1500}, {1 << 40, 1 << 36}, {greatest, greatest}, {greatest, greatest / 9}, {greatest, 3}}
}

// mixed is a room of some scale, and n calls.
func mixed(n int, seed mixer, s scale) (uint64, []call) {
	x := start(s.room - seed.number(s.room)/2)
	var l []call
	for i := range n {
		c := seed.call(x, s.size)
		x.do(i, c)
		l = append(l, c)
	}
	return x.room, l
}

func (c call) String() string {
	if c.name == "Put" {
		return fmt.Sprint("Put ", c.size)
	}
	return c.name
}
