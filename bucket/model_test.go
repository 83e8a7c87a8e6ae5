package bucket_test

import (
	"math"
	"math/big"
	"testing"

	"goit/api"
	"goit/bucket"
)

const (
	greatest   = math.MaxUint64        // the greatest number
	millionths = 1000000               // a byte's tokens
	fitting    = greatest / millionths // the most bytes whose tokens do not run over
	wrapping   = 1 << 58               // bytes whose tokens would be just 0, if they wrapped round
)

// call is one that may change a bucket: To, Take, or Waste, of a number.
type call struct {
	name string
	n    uint64
}

func to(now uint64) call { return call{"To", now} }

func take(size uint64) call { return call{"Take", size} }

func waste(n uint64) call { return call{"Waste", n} }

// answer is what a call answers.
type answer struct {
	taken  bool
	wasted uint64
}

func (c call) do(b *bucket.Bucket) answer {
	switch c.name {
	case "To":
		b.To(c.n)
		return answer{}
	case "Take":
		return answer{taken: b.Take(c.n)}
	}
	return answer{wasted: b.Waste(c.n)}
}

// told is all that a bucket tells.
type told struct{ tokens, wasted uint64 }

func look(b *bucket.Bucket) told { return told{b.Tokens(), b.Wasted()} }

// plain is a bucket as the words say it, in numbers without a bound, which are bounded just where they are told, kept, or held against each other.
type plain struct {
	rate, time     uint64
	tokens, wasted *big.Int
}

func start(rate uint64) plain {
	return plain{rate: rate, tokens: new(big.Int), wasted: new(big.Int)}
}

func large(x uint64) *big.Int { return new(big.Int).SetUint64(x) }

func product(a, b uint64) *big.Int { return new(big.Int).Mul(large(a), large(b)) }

func sum(a, b *big.Int) *big.Int { return new(big.Int).Add(a, b) }

func difference(a, b *big.Int) *big.Int { return new(big.Int).Sub(a, b) }

func least(a, b *big.Int) *big.Int {
	if b.Cmp(a) < 0 {
		return b
	}
	return a
}

// bounded is a number, or the greatest one, if it is above that.
func bounded(x *big.Int) *big.Int { return least(x, large(greatest)) }

// do is what a call makes of it, and answers.
func (p plain) do(c call) (plain, answer) {
	switch c.name {
	case "To":
		if c.n > p.time {
			p.tokens = bounded(sum(p.tokens, product(p.rate, c.n-p.time)))
			p.time = c.n
		}
		return p, answer{}
	case "Take":
		needs := bounded(product(c.n, millionths))
		if p.tokens.Cmp(needs) < 0 {
			return p, answer{}
		}
		p.tokens = difference(p.tokens, needs)
		return p, answer{taken: true}
	}
	gone := least(large(c.n), p.tokens)
	p.tokens = difference(p.tokens, gone)
	p.wasted = bounded(sum(p.wasted, gone))
	return p, answer{wasted: gone.Uint64()}
}

// look is what it should tell.
func (p plain) look() told { return told{p.tokens.Uint64(), p.wasted.Uint64()} }

// plainly is a plain bucket of a rate, behind calls.
func plainly(rate uint64, l []call) plain {
	p := start(rate)
	for _, c := range l {
		p, _ = p.do(c)
	}
	return p
}

// run makes calls on a new bucket, and holds what each answers, and what it tells behind that, against a plain one. It asks twice: asking changes nothing.
func run(t *testing.T, rate uint64, l []call) {
	t.Helper()
	b, p := bucket.New(rate), start(rate)
	if got := look(b); got != (told{}) {
		t.Fatalf("rate %d: a new one tells %v", rate, got)
	}
	for i, c := range l {
		got := c.do(b)
		want := answer{}
		p, want = p.do(c)
		if got != want {
			t.Fatalf("rate %d, %v: %v, not %v", rate, l[max(0, i-9):i+1], got, want)
		}
		if got, again := look(b), look(b); got != p.look() || again != got {
			t.Fatalf("rate %d, behind %v: %v, then %v, not %v", rate, l[max(0, i-9):i+1], got, again, p.look())
		}
	}
}

// rows calls f with all rows of up to n of some calls.
func rows(n int, of []call, f func(l []call)) {
	l := make([]call, 0, n)
	var grow func()
	grow = func() {
		f(l)
		if len(l) == n {
			return
		}
		for _, c := range of {
			l = append(l, c)
			grow()
			l = l[:len(l)-1]
		}
	}
	grow()
}

// rates are some, at the edges and between.
func rates() []uint64 {
	return []uint64{0, 1, 500000, 1000000, 1000001, api.MaxRate, 1 << 63, greatest / 2, fitting * millionths, greatest}
}

// edges are calls at theirs.
func edges() []call {
	return []call{
		to(0), to(1), to(2), to(5), to(api.Horizon + 1), to(greatest),
		take(0), take(1), take(fitting), take(fitting + 1), take(greatest),
		waste(0), waste(1), waste(1000001), waste(greatest),
	}
}

// scale is how great the numbers of mixed calls are at most.
type scale struct{ length, rate uint64 }

func scales() []scale {
	return []scale{
		{3, 3},
		{2000000, 3},
		{5000, 10000000},
		{100, 10000000},
		{1 << 20, api.MaxRate},
		{1 << 31, 1 << 31},
		{1 << 33, 1 << 33},
		{1 << 58, 64},
		{1 << 50, greatest},
		{greatest / 9, 3},
	}
}

// mixer gives numbers in an order that shows no rule.
type mixer uint64

func (m *mixer) turn() uint64 {
	*m = *m*6364136223846793005 + 1442695040888963407
	return uint64(*m)
}

// one is one of n, each as often.
func (m *mixer) one(n int) int { return int(m.turn() >> 33 % uint64(n)) }

// number is one of any length, up to most.
func (m *mixer) number(most uint64) uint64 {
	x := m.turn() >> m.one(64)
	if most == greatest {
		return x
	}
	return x % (most + 1)
}

// near is a number, or one beside it, or a part of it.
func (m *mixer) near(x uint64) uint64 {
	switch m.one(6) {
	case 0:
		return x - min(x, 1)
	case 1:
		return x
	case 2:
		return min(x, greatest-1) + 1
	}
	return m.number(x)
}

// call is one of some scale, behind calls that made a plain bucket; what is taken, or wasted, is often just what there is, or near that.
func (m *mixer) call(p plain, s scale) call {
	switch m.one(12) {
	case 0: // behind, or at its time
		return to(p.time - min(m.number(s.length), p.time))
	case 1, 2, 3:
		return take(m.near(p.tokens.Uint64() / millionths))
	case 4:
		return take(m.number(greatest))
	case 5, 6:
		return waste(m.near(p.tokens.Uint64()))
	case 7:
		return waste(m.number(greatest))
	}
	return to(p.time + min(m.number(s.length), greatest-p.time))
}

// mixed is n calls of some scale, for a bucket of a rate, which is told as well.
func mixed(n int, seed mixer, s scale) (uint64, []call) {
	var l []call
	p := start(seed.number(s.rate))
	for range n {
		c := seed.call(p, s)
		p, _ = p.do(c)
		l = append(l, c)
	}
	return p.rate, l
}
