package link_test

import (
	"fmt"
	"math"
	"math/big"
	"slices"
	"testing"

	"goit/api"
	"goit/link"
)

const (
	greatest   = math.MaxUint64        // the greatest number
	millionths = 1000000               // a byte's tokens
	fitting    = greatest / millionths // the most bytes whose tokens do not run over
)

// parcel is a packet of so many bytes, whose other fields are all its own.
func parcel(n int, size uint64) api.Packet {
	x := uint64(n)
	return api.Packet{N: 3*x + 1, Size: size, Stamp: api.Stamp{Sent: 7*x + 2, First: 5*x + 3, Delivered: greatest - x, At: 11*x + 4, Limited: n%3 == 1}}
}

// call is one that may change a link: Send, of packets of some bytes, or Tick, at a time, with waste and choices.
type call struct {
	name       string
	sizes      []uint64
	now, waste uint64
	choices    []uint64
}

func send(sizes ...uint64) call { return call{name: "Send", sizes: sizes} }

func tick(now, waste uint64, choices ...uint64) call {
	return call{name: "Tick", now: now, waste: waste, choices: choices}
}

func (c call) String() string {
	if c.name == "Send" {
		return fmt.Sprint("Send ", c.sizes)
	}
	return fmt.Sprint("Tick ", c.now, ", ", c.waste, ", ", c.choices)
}

// packets are what the n-th call sends: the i-th one is the parcel 10n + i.
func (c call) packets(n int) []api.Packet {
	var l []api.Packet
	for i, size := range c.sizes {
		l = append(l, parcel(10*n+i, size))
	}
	return l
}

// answer is what a call answers.
type answer struct {
	kept int
	out  []api.Packet
	err  api.Errno
}

// same tells whether two answers are; a list of none may be nil or not.
func (x answer) same(y answer) bool {
	return x.kept == y.kept && x.err == y.err && slices.Equal(x.out, y.out)
}

// do makes the n-th call on a link.
func (c call) do(n int, l *link.Link) answer {
	if c.name == "Send" {
		return answer{kept: l.Send(c.packets(n)...)}
	}
	out, err := l.Tick(c.now, c.waste, c.choices...)
	return answer{out: out, err: err}
}

// told is all that a link tells.
type told struct {
	time           uint64
	count          link.Count
	tokens, wasted uint64
	next           uint64
	some           bool
}

func look(l *link.Link) told {
	x := told{time: l.Time(), count: l.Count()}
	x.tokens, x.wasted = l.Tokens()
	x.next, x.some = l.Next()
	return x
}

// fate is what became of a packet.
type fate int

const (
	dropped fate = iota
	queued
	under
	delivered
)

// trip is a packet that came, what became of it, and when it is due, without a bound, if it was served.
type trip struct {
	packet api.Packet
	fate   fate
	due    *big.Int
}

// plain is a link as the words say it: all packets that ever came, in order, and its tokens, whose sums and products are bounded just where they are told, kept, or held against each other.
type plain struct {
	path           api.Path
	time           uint64
	tokens, wasted *big.Int
	trips          []trip
}

func start(p api.Path) *plain { return &plain{path: p, tokens: new(big.Int), wasted: new(big.Int)} }

func large(x uint64) *big.Int { return new(big.Int).SetUint64(x) }

func product(a, b uint64) *big.Int { return new(big.Int).Mul(large(a), large(b)) }

func sum(l ...*big.Int) *big.Int {
	all := new(big.Int)
	for _, x := range l {
		all.Add(all, x)
	}
	return all
}

func difference(a, b *big.Int) *big.Int { return new(big.Int).Sub(a, b) }

func least(a, b *big.Int) *big.Int {
	if b.Cmp(a) < 0 {
		return b
	}
	return a
}

// bounded is a number, or the greatest one, if it is above that.
func bounded(x *big.Int) *big.Int { return least(x, large(greatest)) }

// on is a time behind another one, or the greatest.
func on(now, more uint64) uint64 { return bounded(sum(large(now), large(more))).Uint64() }

// needs is the tokens of bytes.
func needs(size uint64) *big.Int { return bounded(product(size, millionths)) }

// bytes is those of all packets that are of some fates.
func (x *plain) bytes(of ...fate) *big.Int {
	all := new(big.Int)
	for _, y := range x.trips {
		if slices.Contains(of, y.fate) {
			all.Add(all, large(y.packet.Size))
		}
	}
	return all
}

// first is the place of the first packet of a fate, or how many came, if there is none.
func (x *plain) first(f fate) int {
	for i, y := range x.trips {
		if y.fate == f {
			return i
		}
	}
	return len(x.trips)
}

// left is the bytes that there is still room for.
func (x *plain) left() uint64 { return difference(large(x.path.Buffer), x.bytes(queued)).Uint64() }

// do is the n-th call.
func (x *plain) do(n int, c call) answer {
	if c.name == "Send" {
		return answer{kept: x.send(c.packets(n))}
	}
	if c.now < x.time {
		return answer{err: api.ErrRange}
	}
	x.tokens = bounded(sum(x.tokens, product(x.path.Rate, c.now-x.time)))
	x.time = c.now
	for i := range x.trips {
		if x.trips[i].fate == queued && !x.serve(i, &c) {
			break
		}
	}
	if x.first(queued) == len(x.trips) {
		gone := least(large(c.waste), x.tokens)
		x.tokens = difference(x.tokens, gone)
		x.wasted = bounded(sum(x.wasted, gone))
	}
	return answer{out: x.deliver()}
}

func (x *plain) send(l []api.Packet) int {
	kept := 0
	for _, p := range l {
		y := trip{packet: p, fate: dropped}
		if p.Size <= x.left() {
			y.fate = queued
			kept++
		}
		x.trips = append(x.trips, y)
	}
	return kept
}

// serve serves the packet at a place, with the call's next choice, if there are tokens for it.
func (x *plain) serve(i int, c *call) bool {
	y := &x.trips[i]
	if x.tokens.Cmp(needs(y.packet.Size)) < 0 {
		return false
	}
	x.tokens = difference(x.tokens, needs(y.packet.Size))
	late := new(big.Int)
	if len(c.choices) > 0 {
		late = least(large(c.choices[0]), large(x.path.Jitter))
		c.choices = c.choices[1:]
	}
	y.fate, y.due = under, sum(large(c.now), large(x.path.Delay), late)
	for _, z := range x.trips[:i] {
		if z.due != nil && z.due.Cmp(y.due) > 0 {
			y.due = z.due
		}
	}
	return true
}

func (x *plain) deliver() []api.Packet {
	var l []api.Packet
	for i, y := range x.trips {
		if y.fate != under {
			continue
		}
		if bounded(y.due).Cmp(large(x.time)) > 0 {
			break
		}
		x.trips[i].fate = delivered
		l = append(l, y.packet)
	}
	return l
}

// look is what it should tell.
func (x *plain) look() told {
	y := told{time: x.time, tokens: x.tokens.Uint64(), wasted: x.wasted.Uint64()}
	y.count = link.Count{
		Came:      bounded(x.bytes(dropped, queued, under, delivered)).Uint64(),
		Dropped:   bounded(x.bytes(dropped)).Uint64(),
		Queued:    x.bytes(queued).Uint64(),
		Served:    bounded(x.bytes(under, delivered)).Uint64(),
		Under:     bounded(x.bytes(under)).Uint64(),
		Delivered: bounded(x.bytes(delivered)).Uint64(),
	}
	if i := x.first(under); i < len(x.trips) {
		y.next, y.some = bounded(x.trips[i].due).Uint64(), true
	}
	return y
}

// plainly is a plain link, behind calls.
func plainly(p api.Path, l []call) *plain {
	x := start(p)
	for i, c := range l {
		x.do(i, c)
	}
	return x
}

// made is a new link.
func made(t *testing.T, p api.Path) *link.Link {
	t.Helper()
	l, err := link.New(p)
	if l == nil || err != api.OK {
		t.Fatalf("%v: %v, %d", p, l, err)
	}
	return l
}

// run makes calls on a new link, and holds what each answers, and what it tells behind that, against a plain one. It asks twice: asking changes nothing.
func run(t *testing.T, p api.Path, l []call) {
	t.Helper()
	k, x := made(t, p), start(p)
	for i, c := range l {
		got, want := c.do(i, k), x.do(i, c)
		if !got.same(want) {
			t.Fatalf("%v, behind %v: %v, not %v", p, l[max(0, i-9):i+1], got, want)
		}
		if got, again, want := look(k), look(k), x.look(); got != want || again != want {
			t.Fatalf("%v, behind %v: %v, then %v, not %v", p, l[max(0, i-9):i+1], got, again, want)
		}
	}
}

// rows calls f with all rows of up to n of some calls.
func rows(n int, of []call, f func(l []call)) {
	l := make([]call, 0, n)
	var grow func()
	grow = func() {
		f(l)
		if len(l) == n {
			return
		}
		for _, c := range of {
			l = append(l, c)
			grow()
			l = l[:len(l)-1]
		}
	}
	grow()
}

// paths are some, at the edges and between.
func paths() []api.Path {
	return []api.Path{
		{Rate: 1000000, Delay: 0, Jitter: 0, Buffer: 3},
		{Rate: 1000000, Delay: 2, Jitter: 1, Buffer: 3},
		{Rate: 600000, Delay: 1, Jitter: 2, Buffer: 5},
		{Rate: 1, Delay: 0, Jitter: 0, Buffer: 1},
		{Rate: 1, Delay: api.Horizon, Jitter: api.Horizon, Buffer: 2},
		{Rate: api.MaxRate, Delay: 0, Jitter: api.Horizon, Buffer: api.MaxBytes},
		{Rate: api.MaxRate, Delay: api.Horizon, Jitter: 0, Buffer: 4},
	}
}

// edges are calls at theirs.
func edges() []call {
	return []call{
		send(), send(0), send(1), send(2, 2, 0, 1), send(3), send(greatest, 1), send(api.MaxBytes),
		tick(0, 0), tick(1, 0), tick(2, 1, 1), tick(3, greatest, 0, 5), tick(5, 700000, greatest), tick(greatest-1, 1), tick(greatest, greatest, 2, 1, 0),
	}
}

// mixer gives numbers in an order that shows no rule.
type mixer uint64

func (m *mixer) turn() uint64 {
	*m = *m*6364136223846793005 + 1442695040888963407
	return uint64(*m)
}

// one is one of n, each as often.
func (m *mixer) one(n int) int { return int(m.turn() >> 33 % uint64(n)) }

// number is one of any length, up to most.
func (m *mixer) number(most uint64) uint64 {
	x := m.turn() >> m.one(64)
	if most == greatest {
		return x
	}
	return x % (most + 1)
}

// beside is a number, or one beside it.
func (m *mixer) beside(x uint64) uint64 {
	switch m.one(4) {
	case 0:
		return x - min(x, 1)
	case 1:
		return min(x, greatest-1) + 1
	}
	return x
}

// choice is one beside a jitter, or any.
func (m *mixer) choice(jitter uint64) uint64 {
	switch m.one(4) {
	case 0:
		return m.beside(jitter)
	case 1:
		return m.number(greatest)
	}
	return m.number(jitter)
}

// scale is how great a path, packets, and what goes on at once, are at most, and when time begins.
type scale struct {
	path              api.Path
	size, after, from uint64
}

func scales() []scale {
	return []scale{
		{api.Path{Rate: 3000000, Delay: 30, Jitter: 5, Buffer: 40}, 12, 5, 0},
		{api.Path{Rate: 1500000, Delay: 20000, Jitter: 500, Buffer: 30000}, 1500, 3000, 0},
		{api.Path{Rate: 1500000, Delay: 2000, Jitter: 0, Buffer: 6000}, 1500, 9000, 0},
		{api.Path{Rate: 3, Delay: 1000000, Jitter: 1000000, Buffer: 4}, 5, 1000000, 0},
		{api.Path{Rate: 4000000, Delay: 0, Jitter: 0, Buffer: 9}, 3, 3, 0},
		{api.Path{Rate: api.MaxRate, Delay: api.Horizon, Jitter: api.Horizon, Buffer: api.MaxBytes}, api.MaxBytes, 1 << 26, 0},
		{api.Path{Rate: api.MaxRate, Delay: 1 << 30, Jitter: 1 << 20, Buffer: api.MaxBytes}, 1 << 44, 1 << 24, 0},
		{api.Path{Rate: api.MaxRate, Delay: 9, Jitter: 9, Buffer: api.MaxBytes}, greatest, greatest / 40, 0},
		{api.Path{Rate: 3000000, Delay: 30, Jitter: 5, Buffer: 40}, 12, 5, greatest - 200},
		{api.Path{Rate: 2, Delay: api.Horizon, Jitter: 3, Buffer: api.MaxBytes}, fitting + 1, greatest / 30, 0},
	}
}

// ready is when a plain link has the tokens for its first packet, if time goes on.
func (x *plain) ready() uint64 {
	i := x.first(queued)
	if i == len(x.trips) {
		return x.time
	}
	lacks := difference(needs(x.trips[i].packet.Size), x.tokens)
	if lacks.Sign() <= 0 {
		return x.time
	}
	lacks.Add(lacks, large(x.path.Rate-1)).Div(lacks, large(x.path.Rate))
	return bounded(sum(large(x.time), lacks)).Uint64()
}

// time is one beside what a plain link waits for, or any later one.
func (m *mixer) time(x *plain, s scale) uint64 {
	switch m.one(6) {
	case 0:
		return m.beside(x.look().next)
	case 1:
		return m.beside(x.ready())
	case 2:
		return m.beside(x.time)
	}
	return on(x.time, m.number(s.after))
}

// call is one behind those that made a plain link.
func (m *mixer) call(x *plain, s scale) call {
	if m.one(2) == 0 {
		c := send()
		for range m.one(5) {
			size := m.number(s.size)
			if m.one(4) == 0 {
				size = m.beside(x.left())
			}
			c.sizes = append(c.sizes, size)
		}
		return c
	}
	c := tick(m.time(x, s), 0)
	switch m.one(4) {
	case 0:
		c.waste = m.beside(bounded(sum(x.tokens, product(x.path.Rate, c.now-min(c.now, x.time)))).Uint64())
	case 1:
		c.waste = m.number(greatest)
	case 2:
		c.waste = greatest
	}
	for range m.one(4) {
		c.choices = append(c.choices, m.choice(x.path.Jitter))
	}
	return c
}

// mixed is a path of some scale, and n calls on its link.
func mixed(n int, seed mixer, s scale) (api.Path, []call) {
	p := api.Path{
		Rate:   max(seed.number(s.path.Rate), 1),
		Delay:  seed.number(s.path.Delay),
		Jitter: seed.number(s.path.Jitter),
		Buffer: max(seed.number(s.path.Buffer), 1),
	}
	if seed.one(2) == 0 {
		p = s.path
	}
	x, l := start(p), []call(nil)
	if s.from > 0 {
		l = append(l, tick(s.from, greatest))
		x.do(0, l[0])
	}
	for len(l) < n {
		c := seed.call(x, s)
		x.do(len(l), c)
		l = append(l, c)
	}
	return p, l
}
