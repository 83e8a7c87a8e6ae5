package bucket_test

import (
	"math/big"
	"testing"

	"goit/api"
	"goit/bucket"
)

// account is what a bucket is known by from outside: its rate, the greatest time that it was told, and, in millionths, without a bound, what was taken, and what it told that was wasted.
type account struct {
	rate, time    uint64
	taken, wasted *big.Int
}

func open(rate uint64) account { return account{rate, 0, new(big.Int), new(big.Int)} }

// note is what a call, and its answer, make of it.
func (a *account) note(c call, got answer) {
	switch {
	case c.name == "To":
		a.time = max(a.time, c.n)
	case got.taken:
		a.taken = sum(a.taken, bounded(product(c.n, millionths)))
	}
	a.wasted = sum(a.wasted, large(got.wasted))
}

// kept tells whether what was taken, what was wasted, and what there is, is the rate times the time. Where this is above the greatest number, so much has been there at least, and no more than this.
func (a account) kept(then told) bool {
	together := sum(sum(a.taken, a.wasted), large(then.tokens))
	whole := product(a.rate, a.time)
	return together.Cmp(whole) <= 0 && bounded(together).Cmp(bounded(whole)) == 0 && bounded(a.wasted).Cmp(large(then.wasted)) == 0
}

// conserved holds a bucket, behind each of some calls, against its account.
func conserved(t *testing.T, rate uint64, l []call) {
	t.Helper()
	b, a := bucket.New(rate), open(rate)
	if !a.kept(look(b)) {
		t.Fatalf("rate %d: a new one tells %v", rate, look(b))
	}
	for i, c := range l {
		a.note(c, c.do(b))
		if then := look(b); !a.kept(then) {
			t.Fatalf("rate %d, behind %v: %v, with %d taken, %d wasted, at %d", rate, l[max(0, i-9):i+1], then, a.taken, a.wasted, a.time)
		}
	}
}

// P18.2: what was taken, what was wasted, and what there is, is the rate times the time, together, in any row of times, bytes and waste.
func TestConserved(t *testing.T) {
	for _, rate := range rates() {
		rows(3, edges(), func(l []call) { conserved(t, rate, l) })
	}
	few := []call{to(1), to(3), to(4), take(1), take(2), take(5), waste(1), waste(700000), waste(greatest)}
	for _, rate := range []uint64{300000, 1000000, 7000001, fitting * millionths} {
		rows(5, few, func(l []call) { conserved(t, rate, l) })
	}
	for i, s := range scales() {
		for n := range 40 {
			rate, l := mixed(200, mixer(70000+1000*i+n), s)
			conserved(t, rate, l)
		}
	}
}

// P18.2: one who takes all that there is, byte by byte, and as soon as it is there, takes just the rate times the time, but what is no byte, or was wasted.
func TestAllThatThereIs(t *testing.T) {
	for _, x := range []struct{ rate, length, steps, waste, bytes, tokens uint64 }{
		{1000000, 1, 1000, 0, 1000, 0},
		{1500000, 1, 1000, 0, 1500, 0},
		{300000, 1, 1000, 0, 300, 0},
		{300000, 7, 1000, 0, 2100, 0},
		{333333, 3, 1000, 0, 999, 999000},
		{333333, 3, 1000, 999, 999, 0},          // what was left over above is wasted, bit by bit
		{1000000, 1, 1000, 1000000, 1000, 0},    // nothing is left to be wasted
		{1300000, 1, 1000, greatest, 1000, 0},   // what is no byte is wasted
		{999999, 1, 1000, greatest, 0, 0},       // it never becomes one
		{999999, 1, 1000, 0, 999, 999000},       // it does
		{0, 3, 1000, greatest, 0, 0},            // a rate of 0
		{1, 999999, 3, 0, 2, 999997},            // a rate of 1
		{api.MaxRate, 1, 3, 0, 3298534, 883328}, // 2^40 tokens, three times
	} {
		b, bytes := bucket.New(x.rate), uint64(0)
		for i := range x.steps {
			b.To((i + 1) * x.length)
			for b.Take(1) {
				bytes++
			}
			b.Waste(x.waste)
		}
		if bytes != x.bytes || b.Tokens() != x.tokens {
			t.Errorf("%v: %d bytes, and %d tokens, %d wasted", x, bytes, b.Tokens(), b.Wasted())
		}
		if all := x.rate * x.length * x.steps; bytes*millionths+b.Tokens()+b.Wasted() != all {
			t.Errorf("%v: %d bytes, %d tokens, %d wasted: not %d together", x, bytes, b.Tokens(), b.Wasted(), all)
		}
	}
}
