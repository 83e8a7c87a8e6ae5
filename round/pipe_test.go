package round_test

import (
	"math/big"
	"slices"
	"testing"

	"goit/round"
)

// put is Put(rate, round, limited).
type put struct {
	rate           uint64
	round, limited bool
}

// full is a Put of a rate that counts.
func full(rate uint64) put { return put{rate, true, false} }

// idle is all Puts of a rate that are nothing.
func idle(rate uint64) []put {
	return []put{{rate, false, false}, {rate, true, true}, {rate, false, true}}
}

// told is all that a pipe tells.
type told struct {
	best uint64
	full bool
}

func look(p *round.Pipe) told { return told{p.Best(), p.Full()} }

func (x put) do(p *round.Pipe) { p.Put(x.rate, x.round, x.limited) }

// behind is a pipe behind Puts.
func behind(l ...put) *round.Pipe {
	p := round.Empty()
	for _, x := range l {
		x.do(p)
	}
	return p
}

// plain is a pipe as the words say it, its products in numbers without a bound.
type plain struct{ best, number uint64 }

// times is a product, or the greatest number, if it is above that.
func times(a uint64, b int64) *big.Int {
	x := new(big.Int).SetUint64(a)
	x.Mul(x, big.NewInt(b))
	if x.IsUint64() {
		return x
	}
	return new(big.Int).SetUint64(greatest)
}

// better tells whether a rate is five quarters of the best one at least.
func better(rate, best uint64) bool { return times(rate, 4).Cmp(times(best, 5)) >= 0 }

// do is what a Put makes of it.
func (p plain) do(x put) plain {
	if p.number == 3 || !x.round || x.limited {
		return p
	}
	if better(x.rate, p.best) {
		return plain{x.rate, 0}
	}
	return plain{p.best, p.number + 1}
}

// look is what it should tell.
func (p plain) look() told { return told{p.best, p.number == 3} }

// missing is how many more rates of 0 fill a pipe; they do not, as long as its best rate is 0, and 9 is told then.
func missing(p *round.Pipe) uint64 {
	for n := range uint64(9) {
		if p.Full() {
			return n
		}
		full(0).do(p)
	}
	return 9
}

// missing is how many it should be.
func (p plain) missing() uint64 {
	if p.best == 0 {
		return 9
	}
	return 3 - p.number
}

// hold holds a pipe behind Puts against a best rate, and a number.
func hold(t *testing.T, l []put, best, number uint64) {
	t.Helper()
	p, want := behind(l...), plain{best, number}
	if got := look(p); got != want.look() {
		t.Fatalf("behind %v: %v, not %v", l, got, want.look())
	}
	if got := missing(p); got != want.missing() {
		t.Fatalf("behind %v: %d more fill it, not %d", l, got, want.missing())
	}
}

// run makes Puts on a new pipe, and holds what it tells behind each against a plain one. It looks twice: looking changes nothing.
func run(t *testing.T, l []put) plain {
	t.Helper()
	p, q := round.Empty(), plain{}
	for i, x := range l {
		x.do(p)
		q = q.do(x)
		if got, again := look(p), look(p); got != q.look() || again != got {
			t.Fatalf("behind Put %d, %v: %v, then %v, not %v", i, x, got, again, q.look())
		}
	}
	return q
}

// step is a Put, and the best rate, and the number, behind it.
type step struct {
	put
	best, number uint64
}

// path holds a new pipe against them, one by one.
func path(t *testing.T, l ...step) {
	t.Helper()
	var puts []put
	for _, s := range l {
		puts = append(puts, s.put)
		hold(t, puts, s.best, s.number)
	}
	run(t, puts)
}

// P11.1 (Words, N2): an empty pipe has the best rate 0, and is not full; its number is 0.
func TestEmpty(t *testing.T) {
	if p := round.Empty(); p == nil || look(p) != (told{}) {
		t.Fatal("an empty pipe is nil, or tells something")
	}
	if round.Plenty != 3 {
		t.Error(round.Plenty)
	}
	path(t, step{full(5), 5, 0}, step{full(5), 5, 1}, step{full(5), 5, 2}, step{full(5), 5, 3})
}

// P11.1 (N2: Put): the first rate is the best one, whatever it is.
func TestFirstRate(t *testing.T) {
	for _, rate := range []uint64{0, 1, 2, 3, 4, 5, 100, 1 << 62, 1 << 63, greatest - 1, greatest} {
		path(t, step{full(rate), rate, 0})
	}
}

// P11.1 (N2: Put): a rate of 0 is five quarters of 0, and so is each one; of no other rate it is.
func TestRateNought(t *testing.T) {
	path(t, slices.Repeat([]step{{full(0), 0, 0}}, 9)...)
	path(t,
		step{full(0), 0, 0},
		step{full(0), 0, 0},
		step{full(1), 1, 0},
		step{full(0), 1, 1},
		step{full(0), 1, 2},
		step{full(2), 2, 0},
		step{full(0), 2, 1},
		step{full(0), 2, 2},
		step{full(0), 2, 3},
	)
}

// P11.1 (N2: Put): with no round over, with limited, and with both it is nothing, whatever the rate, and whatever the number.
func TestPutNothing(t *testing.T) {
	for _, ahead := range [][]put{nil, {full(0)}, {full(100)}, {full(100), full(124)}, {full(100), full(124), full(0)}, {full(100), full(124), full(0), full(1)}} {
		was := run(t, ahead)
		for _, rate := range []uint64{0, 1, 99, 100, 124, 125, 126, 1000, greatest} {
			var all []put
			for _, x := range idle(rate) {
				hold(t, append(slices.Clip(ahead), x), was.best, was.number)
				all = append(all, x, x, x, x)
			}
			hold(t, append(slices.Clip(ahead), all...), was.best, was.number)
		}
	}
	// between those that count
	path(t,
		step{put{7, false, false}, 0, 0},
		step{full(100), 100, 0},
		step{put{200, true, true}, 100, 0},
		step{full(110), 100, 1},
		step{put{200, false, true}, 100, 1},
		step{put{110, true, true}, 100, 1},
		step{full(110), 100, 2},
		step{put{110, false, false}, 100, 2},
		step{put{0, false, true}, 100, 2},
		step{full(125), 125, 0},
	)
}

// P11.1 (N2: Put): the least rate that is five quarters of the best one: that one and those above are better ones, the one below isn't.
func TestFiveQuarters(t *testing.T) {
	for _, x := range []struct{ best, least uint64 }{
		{1, 2}, {2, 3}, {3, 4}, {4, 5}, {5, 7}, {6, 8}, {7, 9}, {8, 10}, {9, 12},
		{99, 124}, {100, 125}, {101, 127}, {102, 128}, {103, 129}, {104, 130},
		{1000000, 1250000}, {1000001, 1250002}, {1000002, 1250003}, {1000003, 1250004},
		{1 << 40, 5 << 38}, {1<<40 + 1, 5<<38 + 2}, {1<<40 - 1, 5<<38 - 1},
		{1 << 61, 5 << 59}, {1<<61 + 1, 5<<59 + 2}, {1<<61 - 1, 5<<59 - 1},
		{3689348814741910320, 4611686018427387900}, // the last one, of a multiple of four, whose product does not run over
	} {
		first := full(x.best)
		path(t, step{first, x.best, 0}, step{full(x.least - 1), x.best, 1})
		path(t, step{first, x.best, 0}, step{full(x.least), x.least, 0})
		path(t, step{first, x.best, 0}, step{full(x.least + 1), x.least + 1, 0})
		path(t, step{first, x.best, 0}, step{full(x.best), x.best, 1}) // as good is not better
		path(t, step{first, x.best, 0}, step{full(x.best - 1), x.best, 1})
		path(t, step{first, x.best, 0}, step{full(0), x.best, 1})
		path(t, step{first, x.best, 0}, step{full(greatest), greatest, 0})
	}
	// all small ones
	for best := range uint64(200) {
		for rate := range uint64(300) {
			if rate*4 >= best*5 {
				hold(t, []put{full(best), full(rate)}, rate, 0)
			} else {
				hold(t, []put{full(best), full(rate)}, best, 1)
			}
		}
	}
}

// P11.1 (N2: Put) and DOC.md, rule 10: a product that would run over is the greatest number: with the rate's, with the best one's, with both, and with none of them.
func TestProductsOver(t *testing.T) {
	const (
		rate = 1 << 62             // the first one whose product with 4 runs over
		best = 3689348814741910324 // the first one whose product with 5 does: that of the one below is the greatest number
	)
	for _, x := range []struct {
		best, rate uint64
		is         bool
	}{
		{best - 1, rate - 1, false}, // none
		{best - 2, rate - 1, true},  // three below the greatest number, and five
		{best - 2, rate - 2, false},
		{best - 3, rate - 2, true},
		{best - 1, rate, true}, // the rate's: what is told is the greatest number, as is the other
		{best - 1, rate + 1, true},
		{best - 1, greatest, true},
		{best - 2, rate, true},
		{1000, rate, true}, // wrapped round the product would be 0
		{1000, 1 << 63, true},
		{1000, rate + 200, true},
		{0, rate, true},
		{best, rate - 1, false}, // the best one's: wrapped round it would be 4
		{best, 2, false},
		{best, 1000, false},
		{best, 0, false},
		{greatest, rate - 1, false},
		{greatest, 0, false},
		{1 << 63, rate - 1, false}, // wrapped round it would be 2^63
		{1 << 63, 1 << 61, false},
		{best, rate, true}, // both: they are the same
		{best, rate + 1, true},
		{best, best, false}, // as great, but below 2^62
		{rate, rate, true},
		{1 << 63, 1 << 63, true},
		{greatest, rate, true}, // though it is not greater
		{greatest, 1 << 63, true},
		{greatest, greatest - 1, true},
		{greatest, greatest, true},
		{greatest - 1, greatest, true},
	} {
		if x.is != better(x.rate, x.best) {
			t.Fatalf("%v is not as the words say", x)
		}
		first := step{full(x.best), x.best, 0}
		if x.is {
			path(t, first, step{full(x.rate), x.rate, 0})
		} else {
			path(t, first, step{full(x.rate), x.best, 1})
		}
	}
}

// P11.1 (N2): the number begins anew with a better rate, whatever it was.
func TestNumberAnew(t *testing.T) {
	path(t,
		step{full(100), 100, 0},
		step{full(125), 125, 0}, // from 0
		step{full(100), 125, 1},
		step{full(157), 157, 0}, // from 1
		step{full(157), 157, 1},
		step{full(196), 157, 2},
		step{full(197), 197, 0}, // from 2
		step{full(0), 197, 1},
		step{full(246), 197, 2},
		step{full(247), 247, 0},
		step{full(247), 247, 1},
		step{full(247), 247, 2},
		step{full(247), 247, 3},
	)
	// each one better, and no number ever
	var l []put
	for rate := uint64(4); rate < 1<<60; rate = rate*5/4 + 1 {
		l = append(l, full(rate))
		hold(t, l, rate, 0)
	}
}

// P11.1 (Words, N2): the third one that is not better fills the pipe, two do not; those that are not better leave the best one, even if they are greater.
func TestThird(t *testing.T) {
	three := []uint64{0, 99, 100, 101, 124}
	for _, a := range three {
		for _, b := range three {
			for _, c := range three {
				path(t, step{full(100), 100, 0}, step{full(a), 100, 1}, step{full(b), 100, 2}, step{full(c), 100, 3})
			}
		}
	}
	// a rate is held against the best one, not against the last one
	path(t, step{full(100), 100, 0}, step{full(124), 100, 1}, step{full(130), 130, 0}, step{full(162), 130, 1})
}

// DOC.md, example 5: the pipe is full with the last one, and 125 its best rate.
func TestExample(t *testing.T) {
	p := round.Empty()
	for i, rate := range []uint64{100, 125, 156, 150, 155} {
		p.Put(rate, true, false)
		if want := (told{max(100, min(rate, 125)), i == 4}); look(p) != want {
			t.Errorf("%d: %v, not %v", rate, look(p), want)
		}
	}
	path(t, step{full(100), 100, 0}, step{full(125), 125, 0}, step{full(156), 125, 1}, step{full(150), 125, 2}, step{full(155), 125, 3})
}

// P11.2: what is full stays full, and as it is, whatever is put then.
func TestStays(t *testing.T) {
	for _, best := range []uint64{1, 100, 1 << 62, greatest} {
		ahead := append([]put{full(best)}, slices.Repeat([]put{full(0)}, 3)...)
		var of []put
		for _, rate := range []uint64{0, best - 1, best, best + best/4 + 1, greatest} {
			of = append(append(of, full(rate)), idle(rate)...)
		}
		rows(3, of, func(l []put) {
			hold(t, append(slices.Clip(ahead), l...), best, 3)
		})
	}
	for _, limited := range []bool{false, true} {
		p := behind(full(100), full(100), full(100), full(100))
		numbers(100000, func(x uint64) {
			p.Put(x, !limited, limited)
			if look(p) != (told{100, true}) {
				t.Fatalf("full, and behind %d: %v", x, look(p))
			}
		})
	}
}

// P11.2: behind all rows of Puts, and many of them, what was full is full.
func TestStaysFull(t *testing.T) {
	was := 0
	once := func(l []put) {
		p, is := round.Empty(), false
		for i, x := range l {
			x.do(p)
			if is && !p.Full() {
				t.Fatalf("behind %v it is full, and then not any more", l[:i+1])
			}
			is = p.Full()
		}
		if is {
			was++
		}
	}
	rows(6, []put{full(0), full(4), full(5), full(8), {9, true, true}}, once)
	for _, most := range []uint64{3, 1<<20 - 1, greatest} {
		once(mixed(1000, most))
	}
	if was < 100 {
		t.Errorf("%d were full", was)
	}
}

// P11.1 (N2), behind all rows of Puts.
func TestPipeRows(t *testing.T) {
	edges := append(idle(5), full(0), full(1), full(4), full(5), full(6), full(7), full(1<<62-1), full(1<<62), full(3689348814741910323), full(3689348814741910324), full(greatest))
	check := func(l []put) {
		p, q := round.Empty(), plain{}
		for _, x := range l {
			x.do(p)
			q = q.do(x)
		}
		if got := look(p); got != q.look() {
			t.Fatalf("behind %v: %v, not %v", l, got, q.look())
		}
		if got := missing(p); got != q.missing() {
			t.Fatalf("behind %v: %d more fill it, not %d", l, got, q.missing())
		}
	}
	rows(4, edges, check)
	rows(7, []put{full(4), full(5), full(6), full(8), {9, false, false}}, check)
}

// mixed is Puts of all sorts, with rates of at most so much.
func mixed(n int, most uint64) []put {
	var l []put
	numbers(n, func(x uint64) {
		l = append(l, put{x & most, x>>3%4 != 0, x>>5%4 == 0})
	})
	return l
}

// P11.1 (N2), behind each of many Puts: small rates, great ones, and such as rise till they do not.
func TestPipeLong(t *testing.T) {
	for _, most := range []uint64{1, 7, 1<<20 - 1, 1<<40 - 1, greatest} {
		l := mixed(20000, most)
		for part := range slices.Chunk(l, 50) {
			run(t, part)
		}
		run(t, l)
	}
	for _, by := range []uint64{120, 124, 125, 126, 150} {
		var l []put
		rate := uint64(1000)
		numbers(300, func(x uint64) {
			rate = min(rate*by/100, 1<<40)
			l = append(l, put{rate + x%3, x>>4%8 != 0, x>>7%8 == 0})
		})
		if run(t, l).number != 3 {
			t.Errorf("rates that rise by %d hundredths up to 2^40 do not fill a pipe", by)
		}
	}
}

// P2: a pipe hangs on its own Puts alone, not on another one's, nor on a counter's, and not on how often it is asked.
func TestPipesBeside(t *testing.T) {
	of := []put{full(0), full(4), full(5), full(7), {9, true, true}, {9, false, false}}
	rows(5, of, func(l []put) {
		first, other, c := round.Empty(), round.Empty(), round.New()
		if first == other {
			t.Fatal("two pipes are one")
		}
		p, q := plain{}, plain{}
		for i, x := range l {
			back := l[len(l)-1-i]
			x.do(first)
			p = p.do(x)
			if got := look(round.Empty()); got != (told{}) {
				t.Fatalf("behind %v an empty pipe tells %v", l, got)
			}
			c.Ack(x.rate, back.rate)
			back.do(other)
			q = q.do(back)
			if look(first) != p.look() || look(other) != q.look() {
				t.Fatalf("%v: %v and %v beside one another, not %v and %v", l, look(first), look(other), p.look(), q.look())
			}
		}
		if got := missing(first); got != p.missing() {
			t.Fatalf("%v: %d more fill it beside another pipe, not %d", l, got, p.missing())
		}
		if got := missing(other); got != q.missing() {
			t.Fatalf("%v, backwards: %d more fill it beside another pipe, not %d", l, got, q.missing())
		}
	})
}

// P2: a pipe that was never looked at till the end tells the same.
func TestUnseen(t *testing.T) {
	for n := range 40 {
		l := mixed(n, 15)
		if got, want := look(behind(l...)), run(t, l).look(); got != want {
			t.Fatalf("behind %v: %v, not %v", l, got, want)
		}
	}
}

// P11.1 (N2), P1 and DOC.md, rule 8: a nil pipe answers false and 0, and is put nothing.
func TestNilPipe(t *testing.T) {
	var p *round.Pipe
	for _, rate := range []uint64{0, 1, 100, 1 << 62, greatest} {
		for _, x := range append(idle(rate), full(rate), full(rate), full(0), full(0), full(0)) {
			x.do(p)
			if got := look(p); got != (told{}) || p != nil {
				t.Errorf("nil, behind %v: %v", x, got)
			}
		}
	}
	if got := look(round.Empty()); got != (told{}) {
		t.Errorf("behind a nil one an empty one tells %v", got)
	}
}
