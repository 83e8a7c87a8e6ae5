package pacer_test

import (
	"math"
	"math/big"
	"testing"

	"goit/api"
	"goit/pacer"
)

const (
	greatest   = math.MaxUint64        // the greatest number
	millionths = 1000000               // a byte's credit
	fitting    = greatest / millionths // the most bytes whose credit does not run over
	wrapping   = 1 << 58               // bytes whose credit would be just 0, if it wrapped round
)

// call is one that may change a pacer: Tick(now, rate, quantum), Take(size), or Fill().
type call struct {
	name                     string
	now, rate, quantum, size uint64
}

func tick(now, rate, quantum uint64) call {
	return call{name: "Tick", now: now, rate: rate, quantum: quantum}
}

func take(size uint64) call { return call{name: "Take", size: size} }

func fill() call { return call{name: "Fill"} }

// answer is what a call answers.
type answer struct {
	errno api.Errno
	taken bool
}

func (c call) do(p *pacer.Pacer) answer {
	switch c.name {
	case "Tick":
		return answer{errno: p.Tick(c.now, c.rate, c.quantum)}
	case "Take":
		return answer{taken: p.Take(c.size)}
	}
	p.Fill()
	return answer{}
}

// then is what Next tells.
type then struct {
	at uint64
	ok bool
}

func next(p *pacer.Pacer, size uint64) then {
	at, ok := p.Next(size)
	return then{at, ok}
}

// plain is a pacer as the words say it, in numbers without a bound, which are bounded just where they are told, kept, or held against each other.
type plain struct {
	time, rate, quantum uint64
	credit              *big.Int
}

func start() plain { return plain{credit: new(big.Int)} }

func large(x uint64) *big.Int { return new(big.Int).SetUint64(x) }

func product(a, b uint64) *big.Int { return new(big.Int).Mul(large(a), large(b)) }

// least is the least one of numbers.
func least(l ...*big.Int) *big.Int {
	x := l[0]
	for _, y := range l[1:] {
		if y.Cmp(x) < 0 {
			x = y
		}
	}
	return x
}

// bounded is a number, or the greatest one, if it is above that.
func bounded(x *big.Int) *big.Int { return least(x, large(greatest)) }

// do is what a call makes of it, and answers.
func (p plain) do(c call) (plain, answer) {
	switch c.name {
	case "Tick":
		if c.now < p.time {
			return p, answer{errno: api.ErrRange}
		}
		more := product(c.rate, c.now-p.time)
		credit := least(more.Add(more, p.credit), product(c.quantum, millionths), large(greatest))
		return plain{c.now, c.rate, c.quantum, credit}, answer{}
	case "Take":
		needs := bounded(product(c.size, millionths))
		if p.credit.Cmp(needs) < 0 {
			return p, answer{}
		}
		p.credit = new(big.Int).Sub(p.credit, needs)
		return p, answer{taken: true}
	}
	p.credit = bounded(product(p.quantum, millionths))
	return p, answer{}
}

// first is the time at which there is enough credit for so many bytes, without a bound; nil, if there is none.
func (p plain) first(size uint64) *big.Int {
	lack := bounded(product(size, millionths))
	lack.Sub(lack, p.credit)
	switch {
	case size > p.quantum:
		return nil
	case lack.Sign() <= 0:
		return large(p.time)
	case p.rate == 0:
		return nil
	}
	wait, left := lack.QuoRem(lack, large(p.rate), new(big.Int))
	if left.Sign() > 0 {
		wait.Add(wait, large(1))
	}
	return wait.Add(wait, large(p.time))
}

func (p plain) next(size uint64) then {
	at := p.first(size)
	if at == nil {
		return then{}
	}
	return then{bounded(at).Uint64(), true}
}

// sizes are those at its edges, and around them: those of its credit, its quantum, and of numbers.
func (p plain) sizes() [12]uint64 {
	enough := p.credit.Uint64() / millionths
	return [12]uint64{0, 1, enough - 1, enough, enough + 1, p.quantum - 1, p.quantum, p.quantum + 1, fitting, fitting + 1, wrapping, greatest}
}

// told is all that a pacer tells: its credit, and what Next tells of sizes.
type told struct {
	credit uint64
	next   [12]then
}

func look(p *pacer.Pacer, sizes [12]uint64) told {
	x := told{credit: p.Credit()}
	for i, size := range sizes {
		x.next[i] = next(p, size)
	}
	return x
}

// look is what it should tell.
func (p plain) look() told {
	x := told{credit: p.credit.Uint64()}
	for i, size := range p.sizes() {
		x.next[i] = p.next(size)
	}
	return x
}

// behind is a pacer behind calls.
func behind(l ...call) *pacer.Pacer {
	p := pacer.New()
	for _, c := range l {
		c.do(p)
	}
	return p
}

// plainly is a plain pacer behind calls.
func plainly(l ...call) plain {
	p := start()
	for _, c := range l {
		p, _ = p.do(c)
	}
	return p
}

// run makes calls on a new pacer, and holds what each answers, and what it tells behind that, against a plain one. It asks twice: asking changes nothing.
func run(t *testing.T, l []call) {
	t.Helper()
	r, p := pacer.New(), start()
	for i, c := range l {
		got := c.do(r)
		want := answer{}
		p, want = p.do(c)
		if got != want {
			t.Fatalf("%v: %v, not %v", l[max(0, i-9):i+1], got, want)
		}
		sizes := p.sizes()
		if got, again := look(r, sizes), look(r, sizes); got != p.look() || again != got {
			t.Fatalf("behind %v, of %d: %v, then %v, not %v", l[max(0, i-9):i+1], sizes, got, again, p.look())
		}
	}
}

// rows calls f with all rows of up to n of some calls.
func rows(n int, of []call, f func(l []call)) {
	l := make([]call, 0, n)
	var grow func()
	grow = func() {
		f(l)
		if len(l) == n {
			return
		}
		for _, c := range of {
			l = append(l, c)
			grow()
			l = l[:len(l)-1]
		}
	}
	grow()
}

// scale is how great the numbers of mixed calls are at most.
type scale struct{ length, rate, quantum uint64 }

func scales() []scale {
	return []scale{
		{3, 3, 3},
		{2000000, 3, 4},
		{5000, 10000000, 20000},
		{5000, 10000000, 3},
		{100, 10000000, 1 << 20},
		{1 << 20, api.MaxRate, 1 << 40},
		{1 << 31, 1 << 31, greatest},
		{1 << 33, 1 << 33, 2 * fitting},
		{1 << 50, greatest, greatest},
		{greatest / 9, 3, 2 * fitting},
	}
}

// mixer gives numbers in an order that shows no rule.
type mixer uint64

func (m *mixer) turn() uint64 {
	*m = *m*6364136223846793005 + 1442695040888963407
	return uint64(*m)
}

// one is one of n, each as often.
func (m *mixer) one(n int) int { return int(m.turn() >> 33 % uint64(n)) }

// number is one of any length, up to most.
func (m *mixer) number(most uint64) uint64 {
	x := m.turn() >> m.one(64)
	if most == greatest {
		return x
	}
	return x % (most + 1)
}

// call is one of some scale, behind calls that made a plain pacer; what is taken is often just what there is, or near that.
func (m *mixer) call(p plain, s scale) call {
	later := p.time + min(m.number(s.length), greatest-p.time)
	switch m.one(16) {
	case 0:
		return fill()
	case 1: // with other terms, and no time between
		return tick(p.time, m.number(s.rate), m.number(s.quantum))
	case 2: // behind
		return tick(p.time-min(m.number(s.length), p.time), m.number(s.rate), m.number(s.quantum))
	case 3, 4:
		return take(m.number(s.quantum))
	case 5, 6, 7, 8, 9:
		sizes := p.sizes()
		return take(sizes[m.one(len(sizes))])
	case 10, 11, 12: // with the same terms
		return tick(later, p.rate, p.quantum)
	}
	return tick(later, m.number(s.rate), m.number(s.quantum))
}

// mixed is n calls of some scale.
func mixed(n int, seed mixer, s scale) []call {
	var l []call
	p := start()
	for range n {
		c := seed.call(p, s)
		p, _ = p.do(c)
		l = append(l, c)
	}
	return l
}
