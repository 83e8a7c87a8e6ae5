package fix_test

import (
	"math/big"
	"slices"
	"testing"

	"goit/fix"
)

// The edges, and numbers between them; each call is held against whole numbers without a bound, at all of them.
var numbers = []uint64{0, 1, 2, 3, 4, 5, 7, 10, 99, 100, 1000003, 1<<31 - 1, 1 << 31, 1<<32 - 1, 1 << 32, 1<<32 + 1, 1 << 40, 1<<42 + 1, 1 << 56, 6700417 << 32, 1<<63 - 1, 1 << 63, 1<<63 + 1, 0xAAAAAAAAAAAAAAAA, fix.Max - 2, fix.Max - 1, fix.Max}

func large(x uint64) *big.Int { return new(big.Int).SetUint64(x) }

// told is a number as the document tells it: up to Max, and from 0 on.
func told(x *big.Int) uint64 {
	if x.Sign() < 0 {
		return 0
	}
	if x.Cmp(large(fix.Max)) > 0 {
		return fix.Max
	}
	return x.Uint64()
}

func product(a, b uint64) *big.Int { return new(big.Int).Mul(large(a), large(b)) }

// by is a times b, by c (not 0), rounded down, and what is left.
func by(a, b, c uint64) (quotient, left *big.Int) {
	return new(big.Int).QuoRem(product(a, b), large(c), new(big.Int))
}

// each calls f with all threes of numbers.
func each(f func(a, b, c uint64)) {
	for _, a := range numbers {
		for _, b := range numbers {
			for _, c := range numbers {
				f(a, b, c)
			}
		}
	}
}

// P1.1 (F1: Add).
func TestAdd(t *testing.T) {
	for _, x := range []struct {
		l    []uint64
		want uint64
	}{
		{nil, 0},
		{[]uint64{}, 0},
		{[]uint64{0}, 0},
		{[]uint64{7}, 7},
		{[]uint64{fix.Max}, fix.Max},
		{[]uint64{1, 2, 3}, 6},
		{[]uint64{1, 2, 3, 4, 5, 6, 7, 8, 9, 10}, 55},
		{[]uint64{fix.Max - 1, 1}, fix.Max},
		{[]uint64{fix.Max, 0, 0}, fix.Max},
		{[]uint64{fix.Max, 1}, fix.Max},
		{[]uint64{1, fix.Max}, fix.Max},
		{[]uint64{1 << 63, 1 << 63}, fix.Max},
		{[]uint64{fix.Max, 1, 5}, fix.Max},
		{[]uint64{fix.Max, fix.Max, 2}, fix.Max},
		{[]uint64{1 << 62, 1 << 62, 1 << 62, 1 << 62}, fix.Max},
		{[]uint64{1 << 62, 1 << 62, 1 << 62, 1<<62 - 1}, fix.Max},
		{[]uint64{1 << 62, 1 << 62, 1 << 62, 1<<62 - 2}, fix.Max - 1},
	} {
		if got := fix.Add(x.l...); got != x.want {
			t.Errorf("Add(%d): %d, not %d", x.l, got, x.want)
		}
	}
	if got := fix.Add(); got != 0 {
		t.Errorf("Add(): %d", got)
	}
	each(func(a, b, c uint64) {
		sum := new(big.Int).Add(large(a), large(b))
		sum.Add(sum, large(c))
		if got := fix.Add(a, b, c); got != told(sum) {
			t.Errorf("Add(%d, %d, %d): %d, not %d", a, b, c, got, told(sum))
		}
	})
}

// P1.1 (F1: Sub).
func TestSub(t *testing.T) {
	for _, x := range []struct {
		a    uint64
		l    []uint64
		want uint64
	}{
		{9, nil, 9},
		{0, nil, 0},
		{fix.Max, nil, fix.Max},
		{9, []uint64{0}, 9},
		{9, []uint64{2, 3}, 4},
		{9, []uint64{9}, 0},
		{9, []uint64{4, 5}, 0},
		{9, []uint64{10}, 0},
		{9, []uint64{5, 5}, 0},
		{9, []uint64{10, 1, 1}, 0},
		{0, []uint64{1}, 0},
		{0, []uint64{fix.Max}, 0},
		{fix.Max, []uint64{fix.Max}, 0},
		{fix.Max, []uint64{fix.Max - 1}, 1},
		{fix.Max, []uint64{1 << 63, 1<<63 - 1}, 0},
		{fix.Max, []uint64{1 << 63, 1<<63 - 2}, 1},
		{fix.Max, []uint64{1 << 63, 1 << 63}, 0},
		{fix.Max, []uint64{fix.Max, fix.Max}, 0},
		{5, []uint64{1 << 63, 1 << 63}, 0},
		{5, []uint64{fix.Max, 1, 3}, 0},
	} {
		if got := fix.Sub(x.a, x.l...); got != x.want {
			t.Errorf("Sub(%d, %d): %d, not %d", x.a, x.l, got, x.want)
		}
	}
	each(func(a, b, c uint64) {
		left := new(big.Int).Sub(large(a), large(b))
		if got := fix.Sub(a, b); got != told(left) {
			t.Errorf("Sub(%d, %d): %d, not %d", a, b, got, told(left))
		}
		left.Sub(left, large(c))
		if got := fix.Sub(a, b, c); got != told(left) {
			t.Errorf("Sub(%d, %d, %d): %d, not %d", a, b, c, got, told(left))
		}
	})
}

// P1.1 (F1: Mul).
func TestMul(t *testing.T) {
	for _, x := range []struct{ a, b, want uint64 }{
		{0, 0, 0},
		{0, fix.Max, 0},
		{fix.Max, 0, 0},
		{1, fix.Max, fix.Max},
		{6, 7, 42},
		{1 << 32, 1 << 31, 1 << 63},
		{1 << 32, 1 << 32, fix.Max},
		{1<<32 + 1, 1<<32 - 1, fix.Max},
		{6700417, 641 * 4294967295, fix.Max},
		{1 << 63, 2, fix.Max},
		{3 << 62, 3, fix.Max},
		{fix.Max, 2, fix.Max},
		{fix.Max, fix.Max, fix.Max},
		{fix.Max / 2, 2, fix.Max - 1},
		{1 << 33, 1<<31 + 1, fix.Max},
	} {
		if got := fix.Mul(x.a, x.b); got != x.want {
			t.Errorf("Mul(%d, %d): %d, not %d", x.a, x.b, got, x.want)
		}
	}
	each(func(a, b, _ uint64) {
		if got, want := fix.Mul(a, b), told(product(a, b)); got != want {
			t.Errorf("Mul(%d, %d): %d, not %d", a, b, got, want)
		}
	})
}

// P1.1 (F2: Share, Over).
func TestShareOver(t *testing.T) {
	for _, x := range []struct{ a, b, c, share, over uint64 }{
		{7, 3, 4, 5, 6},
		{8, 3, 4, 6, 6},
		{1, 1, 2, 0, 1},
		{5, 0, 7, 0, 0},
		{0, 5, 7, 0, 0},
		{0, 0, fix.Max, 0, 0},
		{1, 1, fix.Max, 0, 1},
		// a product beyond 64 bits ahead of the division
		{1 << 63, 6, 8, 3 << 61, 3 << 61},
		{1 << 60, 300, 700, 494109216260077275, 494109216260077276},
		{fix.Max, fix.Max, fix.Max, fix.Max, fix.Max},
		{fix.Max, fix.Max - 1, fix.Max, fix.Max - 1, fix.Max - 1},
		{fix.Max - 1, fix.Max - 1, fix.Max, fix.Max - 2, fix.Max - 1},
		{fix.Max, 1 << 63, 1 << 63, fix.Max, fix.Max},
		// an answer that is greater than Max
		{1 << 40, 1 << 40, 3, fix.Max, fix.Max},
		{fix.Max, fix.Max, 1, fix.Max, fix.Max},
		{1 << 63, 2, 1, fix.Max, fix.Max},
		{1 << 63, 4, 2, fix.Max, fix.Max},
		{1 << 32, 1 << 32, 1, fix.Max, fix.Max},
		{fix.Max, 3, 2, fix.Max, fix.Max},
		// rounded up it is Max
		{3 << 62, 3 << 62, 9<<60 + 1, fix.Max - 1, fix.Max},
		// Max, and something left: rounded up it is greater than Max
		{fix.Max - 1, fix.Max - 1, fix.Max - 2, fix.Max, fix.Max},
		{1<<32 + 1, 1<<33 - 1, 2, fix.Max, fix.Max},
		// a divisor of 0
		{5, 5, 0, fix.Max, fix.Max},
		{0, 0, 0, fix.Max, fix.Max},
		{0, 5, 0, fix.Max, fix.Max},
		{fix.Max, fix.Max, 0, fix.Max, fix.Max},
	} {
		if share, over := fix.Share(x.a, x.b, x.c), fix.Over(x.a, x.b, x.c); share != x.share || over != x.over {
			t.Errorf("%d times %d, by %d: %d and %d, not %d and %d", x.a, x.b, x.c, share, over, x.share, x.over)
		}
	}
	each(func(a, b, c uint64) {
		share, over := uint64(fix.Max), uint64(fix.Max)
		if c != 0 {
			quotient, left := by(a, b, c)
			share = told(quotient)
			if left.Sign() > 0 {
				quotient.Add(quotient, big.NewInt(1))
			}
			over = told(quotient)
		}
		if got := fix.Share(a, b, c); got != share {
			t.Errorf("Share(%d, %d, %d): %d, not %d", a, b, c, got, share)
		}
		if got := fix.Over(a, b, c); got != over {
			t.Errorf("Over(%d, %d, %d): %d, not %d", a, b, c, got, over)
		}
	})
}

// P1.2: where the answer is not greater than Max, Over is Share just if nothing is left, else one more; elsewhere both are Max.
func TestNear(t *testing.T) {
	whole, rest, beyond := 0, 0, 0
	each(func(a, b, c uint64) {
		share, over := fix.Share(a, b, c), fix.Over(a, b, c)
		if c == 0 {
			if share != fix.Max || over != fix.Max {
				t.Errorf("%d times %d, by 0: %d and %d", a, b, share, over)
			}
			return
		}
		quotient, left := by(a, b, c)
		switch {
		case left.Sign() == 0:
			whole++
			if over != share {
				t.Errorf("%d times %d, by %d: nothing is left, and Over is %d, Share %d", a, b, c, over, share)
			}
		case quotient.Cmp(large(fix.Max)) < 0:
			rest++
			if over-share != 1 {
				t.Errorf("%d times %d, by %d: something is left, and Over is %d, Share %d", a, b, c, over, share)
			}
		default:
			beyond++
			if over != fix.Max || share != fix.Max {
				t.Errorf("%d times %d, by %d: beyond Max, and Over is %d, Share %d", a, b, c, over, share)
			}
		}
	})
	if whole == 0 || rest == 0 || beyond == 0 {
		t.Errorf("not all was looked at: %d %d %d", whole, rest, beyond)
	}
}

// P1.3: whichever way the product is written, it is whole again (of 0 nothing can be made whole: Max, F2).
func TestWhole(t *testing.T) {
	each(func(a, b, _ uint64) {
		want := a
		if b == 0 {
			want = fix.Max
		}
		if got := fix.Share(a, b, b); got != want {
			t.Errorf("Share(%d, %d, %d): %d", a, b, b, got)
		}
		if got := fix.Over(a, b, b); got != want {
			t.Errorf("Over(%d, %d, %d): %d", a, b, b, got)
		}
		if got := fix.Share(b, a, b); got != want {
			t.Errorf("Share(%d, %d, %d): %d", b, a, b, got)
		}
		if got := fix.Over(b, a, b); got != want {
			t.Errorf("Over(%d, %d, %d): %d", b, a, b, got)
		}
	})
}

// P2: a call answers the same whatever was called ahead of it; what is handed in, and what lies behind its length, stays as it is (DOC.md, rule 4).
func TestArgumentsAlone(t *testing.T) {
	type answers [5]uint64
	ask := func(a, b, c uint64) answers {
		return answers{fix.Add(a, b, c), fix.Sub(a, b, c), fix.Mul(a, b), fix.Share(a, b, c), fix.Over(a, b, c)}
	}
	var first []answers
	each(func(a, b, c uint64) { first = append(first, ask(a, b, c)) })
	slices.Reverse(numbers)
	defer slices.Reverse(numbers)
	i := len(first)
	each(func(a, b, c uint64) {
		i--
		if again := ask(a, b, c); again != first[i] {
			t.Errorf("%d, %d, %d: first %d, then %d", a, b, c, first[i], again)
		}
	})

	l := []uint64{3, 4, 5, 6, 7}
	if got := fix.Add(l[:3]...); got != 12 {
		t.Errorf("Add of three of five: %d", got)
	}
	if got := fix.Sub(20, l[:3]...); got != 8 {
		t.Errorf("Sub of three of five: %d", got)
	}
	if !slices.Equal(l, []uint64{3, 4, 5, 6, 7}) {
		t.Errorf("what was handed in was written into: %d", l)
	}
}
