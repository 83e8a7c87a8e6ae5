package bound_test

import (
	"math"
	"math/big"
	"slices"
	"testing"

	"goit/bound"
)

// none is a bound that is none.
const none = math.MaxUint64

// edges are none, one less, and 0, and numbers that 7 tenths, and 85 hundredths, divide, and do not; with the greatest ones products run over.
var edges = []uint64{0, 1, 2, 7, 10, 11, 14, 20, 99, 100, 1 << 32, none / 10 * 7, none / 7, none/7 + 1, 1 << 63, none - 2, none - 1, none}

// few are some of them, for calls of many numbers.
var few = []uint64{0, 1, 9, 10, 14, 700, 1000, none/10*7 + 3, none - 1, none}

// numbers are edges, all small numbers, those around which a product runs over, or a share is just another edge, and many others.
func numbers() []uint64 {
	l := slices.Clone(edges)
	for x := range uint64(1001) {
		l = append(l, x, none-x)
	}
	for _, top := range []uint64{none / 7, none / 10, none / 17, none / 20, none / 85, none / 100, none / 7 * 3, none / 85 * 50, 1 << 62, 1 << 63} {
		for d := range uint64(41) {
			l = append(l, top-20+d)
		}
	}
	x := uint64(13)
	for range 2000 {
		x = x*6364136223846793005 + 1442695040888963407
		l = append(l, x>>(x>>32%64))
	}
	return l
}

// by is a times b, by c, rounded down, without a bound up to the end.
func by(a, b, c uint64) uint64 {
	x := new(big.Int).SetUint64(a)
	x.Mul(x, new(big.Int).SetUint64(b))
	x.Quo(x, new(big.Int).SetUint64(c))
	if !x.IsUint64() {
		return none
	}
	return x.Uint64()
}

func greater(a, b uint64) uint64 {
	if a > b {
		return a
	}
	return b
}

func lesser(a, b uint64) uint64 {
	if a < b {
		return a
	}
	return b
}

// plain are bounds as the words say them: what is none is not there.
type plain map[string]uint64

func (p plain) look() bound.Bounds {
	b := bound.Bounds{Hi: none, Lo: none, Bw: none}
	if x, ok := p["hi"]; ok {
		b.Hi = x
	}
	if x, ok := p["lo"]; ok {
		b.Lo = x
	}
	if x, ok := p["bw"]; ok {
		b.Bw = x
	}
	return b
}

func of(b bound.Bounds) plain {
	p := plain{}
	p.set("hi", b.Hi)
	p.set("lo", b.Lo)
	p.set("bw", b.Bw)
	return p
}

func (p plain) set(name string, x uint64) {
	delete(p, name)
	if x != none {
		p[name] = x
	}
}

func (p plain) lose(flight, rate, have uint64) {
	was, ok := p["lo"]
	if !ok {
		was = have
	}
	p.set("lo", greater(flight, by(was, 7, 10)))
	if was, ok := p["bw"]; ok {
		p.set("bw", greater(rate, by(was, 7, 10)))
	} else {
		p.set("bw", rate)
	}
}

func (p plain) pull(flight, target uint64) { p.set("hi", greater(flight, by(target, 7, 10))) }

func (p plain) push(n uint64) {
	was, ok := p["hi"]
	if !ok {
		return
	}
	if n > none-1-was {
		n = none - 1 - was
	}
	p.set("hi", was+n)
}

func (p plain) short() {
	delete(p, "lo")
	delete(p, "bw")
}

// answers are those of the calls that answer a number.
type answers struct{ cap, room, limit uint64 }

func (p plain) answers(n, rate uint64) answers {
	a := answers{n, none, rate}
	for _, name := range []string{"hi", "lo"} {
		if x, ok := p[name]; ok {
			a.cap = lesser(a.cap, x)
		}
	}
	if x, ok := p["hi"]; ok {
		a.room = by(x, 85, 100)
	}
	if x, ok := p["bw"]; ok {
		a.limit = lesser(rate, x)
	}
	return a
}

func ask(b bound.Bounds, n, rate uint64) answers { return answers{b.Cap(n), b.Room(), b.Limit(rate)} }

// all calls f with all bounds of some numbers.
func all(l []uint64, f func(b bound.Bounds)) {
	for _, hi := range l {
		for _, lo := range l {
			for _, bw := range l {
				f(bound.Bounds{Hi: hi, Lo: lo, Bw: bw})
			}
		}
	}
}

// holds tells what does not hold: of what a call gave, of what it should have given, and of bounds on which it was made, and as they were ahead of it.
func holds(t *testing.T, call string, l []uint64, got, want, on, before bound.Bounds) {
	t.Helper()
	if got != want {
		t.Errorf("%v: %s%d: %v, not %v", before, call, l, got, want)
	}
	if on != before {
		t.Errorf("%s%d has changed the bounds that it was made on: %v, not %v", call, l, on, before)
	}
}

// P13.1 (B1: None), and each call on it.
func TestNone(t *testing.T) {
	if got, want := bound.None(), (bound.Bounds{Hi: math.MaxUint64, Lo: math.MaxUint64, Bw: math.MaxUint64}); got != want {
		t.Fatalf("None: %v", got)
	}
	b := bound.None()
	if got := b.Cap(); got != none {
		t.Errorf("Cap(): %d", got)
	}
	if got := b.Room(); got != none {
		t.Errorf("Room: %d", got)
	}
	if got := b.Short(); got != b {
		t.Errorf("Short: %v", got)
	}
	for _, n := range numbers() {
		if got := b.Push(n); got != b {
			t.Errorf("Push(%d): %v", n, got)
		}
		if got := b.Cap(n); got != n {
			t.Errorf("Cap(%d): %d", n, got)
		}
		if got := b.Limit(n); got != n {
			t.Errorf("Limit(%d): %d", n, got)
		}
	}
}

// P13.1 (B1: Lose), by hand.
func TestLose(t *testing.T) {
	for _, x := range []struct {
		lo, bw             uint64
		flight, rate, have uint64
		newLo, newBw       uint64
	}{
		// Both none: have counts, and the rate is the bound.
		{none, none, 300, 1000, 500, 350, 1000},
		{none, none, 350, 1000, 500, 350, 1000},
		{none, none, 351, 1000, 500, 351, 1000},
		{none, none, 349, 1000, 500, 350, 1000},
		{none, none, 0, 0, 0, 0, 0},
		{none, none, 0, 0, 1, 0, 0},
		{none, none, 0, 1, 2, 1, 1},
		{none, none, 5, 7, 0, 5, 7},
		// Neither none: have does not count.
		{350, 1000, 100, 200, 9999, 245, 700},
		{350, 1000, 245, 700, 9999, 245, 700},
		{350, 1000, 246, 701, 9999, 246, 701},
		{350, 1000, 244, 699, 9999, 245, 700},
		{350, 1000, 350, 1000, 9999, 350, 1000},
		{350, 1000, 351, 1001, 9999, 351, 1001},
		{350, 1000, 900, 5000, 0, 900, 5000},
		{0, 0, 0, 0, none, 0, 0},
		{0, 0, 3, 4, none, 3, 4},
		{1, 1, 0, 0, 100, 0, 0},
		// One none.
		{none, 1000, 10, 20, 100, 70, 700},
		{100, none, 10, 20, 500, 70, 20},
		{none, 0, 10, 20, 100, 70, 20},
		{0, none, 10, 20, 100, 10, 20},
		// Rounded down.
		{11, 12, 0, 0, 0, 7, 8}, {13, 14, 0, 0, 0, 9, 9}, {15, 16, 0, 0, 0, 10, 11}, {17, 18, 0, 0, 0, 11, 12}, {19, 20, 0, 0, 0, 13, 14},
		{none, none, 0, 0, 19, 13, 0},
		// The greatest ones: seven tenths of 2^64 - 1 are 12912720851596686130.5, those of 2^64 - 2 are 12912720851596686129.8.
		{none, none, 0, 0, none, 12912720851596686130, 0},
		{none, none, 0, 0, none - 1, 12912720851596686129, 0},
		{none - 1, none - 1, 0, 0, 5, 12912720851596686129, 12912720851596686129},
		{none - 1, none - 1, none - 1, none - 1, 5, none - 1, none - 1},
		{none - 1, none - 1, none, none, 5, none, none},
		{none, none, none, none, none, none, none},
		{none, none, none - 1, none - 1, none, none - 1, none - 1},
	} {
		for _, hi := range edges {
			b := bound.Bounds{Hi: hi, Lo: x.lo, Bw: x.bw}
			before := b
			got := b.Lose(x.flight, x.rate, x.have)
			holds(t, "Lose", []uint64{x.flight, x.rate, x.have}, got, bound.Bounds{Hi: hi, Lo: x.newLo, Bw: x.newBw}, b, before)
		}
	}
}

// P13.1 (B1: Lose; rule 10), against numbers without a bound: all of the edges, and seven tenths of many numbers.
func TestLoseAll(t *testing.T) {
	for _, lo := range edges {
		for _, flight := range edges {
			for _, have := range edges {
				for i, bw := range edges {
					rate := edges[(i*5+int(have%7))%len(edges)]
					b := bound.Bounds{Hi: 77, Lo: lo, Bw: bw}
					before, p := b, of(b)
					p.lose(flight, rate, have)
					holds(t, "Lose", []uint64{flight, rate, have}, b.Lose(flight, rate, have), p.look(), b, before)
				}
			}
		}
	}
	for _, bw := range edges {
		for _, rate := range edges {
			b := bound.Bounds{Hi: none, Lo: 5, Bw: bw}
			before, p := b, of(b)
			p.lose(1, rate, 8)
			holds(t, "Lose", []uint64{1, rate, 8}, b.Lose(1, rate, 8), p.look(), b, before)
		}
	}
}

// P13.1 (B1, B2: seven tenths, and 85 hundredths, rounded down), against numbers without a bound.
func TestShares(t *testing.T) {
	for _, n := range numbers() {
		seven := by(n, 7, 10)
		if got := bound.None().Lose(0, 0, n); got.Lo != seven {
			t.Errorf("Lose with %d, and no Lo: %v", n, got)
		}
		want := bound.Bounds{Hi: 1, Lo: seven, Bw: seven}
		if n == none { // have counts, and the rate
			want = bound.Bounds{Hi: 1, Lo: 2, Bw: 0}
		}
		if got := (bound.Bounds{Hi: 1, Lo: n, Bw: n}).Lose(0, 0, 3); got != want {
			t.Errorf("Lose of %d: %v, not %v", n, got, want)
		}
		if got := (bound.Bounds{Hi: 1, Lo: 2, Bw: 3}).Pull(0, n); got != (bound.Bounds{Hi: seven, Lo: 2, Bw: 3}) {
			t.Errorf("Pull to %d: %v", n, got)
		}
		// What it is told is as much, one more, and one less.
		for d := range uint64(3) {
			told := seven + d - 1
			if seven == 0 && d == 0 {
				told = 0
			}
			if got := bound.None().Lose(told, told, n); got.Lo != greater(told, seven) || got.Bw != told {
				t.Errorf("Lose(%d, %d, %d): %v", told, told, n, got)
			}
			if n != none {
				if got := (bound.Bounds{Hi: 1, Lo: n, Bw: n}).Lose(told, told, 3); got.Lo != greater(told, seven) || got.Bw != greater(told, seven) {
					t.Errorf("Lose(%d, %d, 3) of %d: %v", told, told, n, got)
				}
			}
			if got := bound.None().Pull(told, n); got.Hi != greater(told, seven) {
				t.Errorf("Pull(%d, %d): %v", told, n, got)
			}
		}
		room := by(n, 85, 100)
		if n == none {
			room = none
		}
		if got := (bound.Bounds{Hi: n, Lo: 2, Bw: 3}).Room(); got != room {
			t.Errorf("Room of %d: %d, not %d", n, got, room)
		}
	}
}

// P13.1 (B1: Pull), whatever Hi was.
func TestPull(t *testing.T) {
	for _, x := range []struct{ flight, target, hi uint64 }{
		{0, 0, 0}, {60, 100, 70}, {70, 100, 70}, {71, 100, 71}, {69, 100, 70}, {0, 1, 0}, {1, 1, 1}, {0, 10, 7}, {0, 11, 7}, {0, 19, 13}, {500, 0, 500},
		{0, none, 12912720851596686130}, {0, none - 1, 12912720851596686129}, {1, none - 4, 12912720851596686127},
		{none - 1, none, none - 1}, {none, none, none}, {none, 0, none}, {none - 1, 0, none - 1},
	} {
		all(edges, func(b bound.Bounds) {
			before := b
			got := b.Pull(x.flight, x.target)
			holds(t, "Pull", []uint64{x.flight, x.target}, got, bound.Bounds{Hi: x.hi, Lo: b.Lo, Bw: b.Bw}, b, before)
		})
	}
	for _, flight := range edges {
		for _, target := range edges {
			b := bound.Bounds{Hi: 50, Lo: 40, Bw: 30}
			before, p := b, of(b)
			p.pull(flight, target)
			holds(t, "Pull", []uint64{flight, target}, b.Pull(flight, target), p.look(), b, before)
		}
	}
}

// P13.1 (B1: Push), by hand.
func TestPush(t *testing.T) {
	for _, x := range []struct{ hi, n, want uint64 }{
		{0, 0, 0}, {0, 1, 1}, {70, 10, 80}, {70, 0, 70}, {1, none - 3, none - 2},
		// Up to one less than Max, and past that.
		{0, none - 2, none - 2}, {0, none - 1, none - 1}, {0, none, none - 1},
		{1, none - 2, none - 1}, {1, none - 1, none - 1}, {1, none, none - 1},
		{none - 3, 1, none - 2}, {none - 3, 2, none - 1}, {none - 3, 3, none - 1}, {none - 3, 4, none - 1}, {none - 3, 9, none - 1}, {none - 3, none, none - 1},
		{none - 2, 0, none - 2}, {none - 2, 1, none - 1}, {none - 2, 2, none - 1},
		{none - 1, 0, none - 1}, {none - 1, 1, none - 1}, {none - 1, 2, none - 1}, {none - 1, none - 1, none - 1}, {none - 1, none, none - 1},
		{1 << 63, 1<<63 - 2, none - 1}, {1 << 63, 1<<63 - 3, none - 2}, {1 << 63, 1<<63 - 1, none - 1}, {1 << 63, 1 << 63, none - 1}, {1 << 63, 1<<63 + 5, none - 1},
		// None stays none.
		{none, 0, none}, {none, 1, none}, {none, none - 1, none}, {none, none, none},
	} {
		for _, lo := range edges {
			for _, bw := range edges {
				b := bound.Bounds{Hi: x.hi, Lo: lo, Bw: bw}
				before := b
				holds(t, "Push", []uint64{x.n}, b.Push(x.n), bound.Bounds{Hi: x.want, Lo: lo, Bw: bw}, b, before)
			}
		}
	}
}

// P13.1 (B1: Push; rule 10), against plain bounds.
func TestPushAll(t *testing.T) {
	l := numbers()
	for _, hi := range edges {
		for _, n := range l {
			b := bound.Bounds{Hi: hi, Lo: 5, Bw: 6}
			before, p := b, of(b)
			p.push(n)
			holds(t, "Push", []uint64{n}, b.Push(n), p.look(), b, before)
			b = bound.Bounds{Hi: n, Lo: none, Bw: none}
			before, p = b, of(b)
			p.push(hi)
			holds(t, "Push", []uint64{hi}, b.Push(hi), p.look(), b, before)
		}
	}
}

// P13.1 (B1: Short), P13.2: Short lets Hi be.
func TestShort(t *testing.T) {
	all(edges, func(b bound.Bounds) {
		before := b
		holds(t, "Short", nil, b.Short(), bound.Bounds{Hi: b.Hi, Lo: none, Bw: none}, b, before)
	})
	for _, n := range numbers() {
		if got := (bound.Bounds{Hi: n, Lo: n, Bw: n}).Short(); got != (bound.Bounds{Hi: n, Lo: none, Bw: none}) {
			t.Errorf("Short of %d: %v", n, got)
		}
	}
}

// P13.1 (B2: Cap), by hand.
func TestCap(t *testing.T) {
	for _, x := range []struct {
		hi, lo uint64
		l      []uint64
		want   uint64
	}{
		{none, none, nil, none}, {none, none, []uint64{}, none}, {5, 9, nil, 5}, {9, 5, nil, 5}, {5, 5, nil, 5}, {none, 5, nil, 5}, {5, none, nil, 5}, {0, none, nil, 0}, {none, 0, nil, 0}, {none - 1, none, nil, none - 1}, {none, none - 1, nil, none - 1},
		{none, none, []uint64{none}, none}, {none, none, []uint64{none - 1}, none - 1}, {none, none, []uint64{0}, 0},
		{80, 245, []uint64{90}, 80}, {80, 245, []uint64{80}, 80}, {80, 245, []uint64{79}, 79}, {245, 80, []uint64{90}, 80}, {245, 80, []uint64{79}, 79}, {0, 80, []uint64{79}, 0}, {80, 0, []uint64{79}, 0},
		// The least one first, last, between, a bound, and twice.
		{80, 245, []uint64{3, 90, 300}, 3}, {80, 245, []uint64{90, 300, 3}, 3}, {80, 245, []uint64{90, 3, 300}, 3}, {80, 245, []uint64{90, 300, 81}, 80}, {245, 80, []uint64{90, 300, 81}, 80}, {80, 245, []uint64{90, 3, 300, 3}, 3}, {80, 245, []uint64{80, 245, 80}, 80},
		{80, 245, []uint64{none, none, none}, 80}, {none, none, []uint64{9, 8, 7, 6, 5, 4, 3, 2, 1}, 1}, {none, none, []uint64{1, 2, 3, 4, 5, 6, 7, 8, 9}, 1}, {none, none, []uint64{1, 0}, 0}, {none, none, []uint64{0, 1}, 0},
		{1 << 63, none, []uint64{1<<63 + 1}, 1 << 63}, {1 << 63, 1<<63 - 1, []uint64{none}, 1<<63 - 1},
	} {
		for _, bw := range edges { // of the rate: no matter here
			b := bound.Bounds{Hi: x.hi, Lo: x.lo, Bw: bw}
			before, list := b, slices.Clone(x.l)
			if got := b.Cap(x.l...); got != x.want {
				t.Errorf("%v: Cap(%d): %d, not %d", b, x.l, got, x.want)
			}
			if !slices.Equal(x.l, list) || b != before {
				t.Errorf("Cap(%d) has changed what it was given: %d, %v, and %v ahead of it", list, x.l, b, before)
			}
		}
	}
	if got := (bound.Bounds{Hi: 80, Lo: 245, Bw: 1}).Cap(); got != 80 {
		t.Errorf("Cap(): %d", got)
	}
}

// P13.1 (B2: Cap), with all rows of up to four numbers, and one of many.
func TestCapAll(t *testing.T) {
	of := []uint64{0, 3, 5, 7, none - 1, none}
	var fill func(l []uint64)
	fill = func(l []uint64) {
		for _, hi := range of {
			for _, lo := range of {
				want := lesser(hi, lo)
				for _, n := range l {
					want = lesser(want, n)
				}
				if got := (bound.Bounds{Hi: hi, Lo: lo, Bw: 4}).Cap(l...); got != want {
					t.Errorf("Hi %d, Lo %d: Cap(%d): %d, not %d", hi, lo, l, got, want)
				}
			}
		}
		if len(l) == 4 {
			return
		}
		for _, n := range of {
			fill(append(slices.Clone(l), n))
		}
	}
	fill(nil)
	many := make([]uint64, 1000000)
	for i := range many {
		many[i] = 1000 + uint64(i*7919%len(many))
	}
	for _, at := range []int{0, 1, len(many) / 2, len(many) - 2, len(many) - 1} {
		was := many[at]
		many[at] = 999
		b := bound.Bounds{Hi: 1500, Lo: 1400, Bw: 2}
		if got := b.Cap(many...); got != 999 {
			t.Errorf("the least one of a million at place %d: %d", at, got)
		}
		many[at] = was
	}
}

// Rule 4 (Cap): what lies behind a list's length is neither read nor written, and the list is as it was.
func TestCapList(t *testing.T) {
	for length := range 6 {
		memory := []uint64{60, 50, 70, 40, 55, 3, 2, 1, 0, 9}
		want := slices.Clone(memory)
		least := uint64(45)
		for _, n := range memory[:length] {
			least = lesser(least, n)
		}
		for range 3 {
			if got := (bound.Bounds{Hi: 45, Lo: 100, Bw: 0}).Cap(memory[:length]...); got != least {
				t.Errorf("Cap of %d numbers: %d, not %d", length, got, least)
			}
		}
		if !slices.Equal(memory, want) {
			t.Errorf("Cap of %d numbers has changed them: %d", length, memory)
		}
	}
	// What was handed in is not kept: it may be changed.
	l := []uint64{4, 5}
	b := bound.Bounds{Hi: 45, Lo: 100, Bw: 0}
	b.Cap(l...)
	l[0] = 1
	if got := b.Cap(); got != 45 {
		t.Errorf("Cap(): %d", got)
	}
}

// P13.1 (B2: Room), by hand.
func TestRoom(t *testing.T) {
	for _, x := range []struct{ hi, want uint64 }{
		{0, 0}, {1, 0}, {2, 1}, {3, 2}, {6, 5}, {7, 5}, {10, 8}, {19, 16}, {20, 17}, {21, 17}, {80, 68}, {99, 84}, {100, 85}, {101, 85}, {40, 34}, {39, 33},
		{none, none}, {none - 1, 15679732462653118871}, {none - 15, 15679732462653118860}, {none - 14, 15679732462653118860}, {none - 16, 15679732462653118859}, {1 << 63, 7839866231326559436},
	} {
		for _, lo := range edges {
			for _, bw := range edges {
				b := bound.Bounds{Hi: x.hi, Lo: lo, Bw: bw}
				before := b
				if got := b.Room(); got != x.want || b != before {
					t.Errorf("%v: Room: %d, not %d, and %v behind it", before, got, x.want, b)
				}
			}
		}
	}
}

// P13.1 (B2: Limit): below, at, and above Bw, and where it is none.
func TestLimit(t *testing.T) {
	for _, x := range []struct{ bw, rate, want uint64 }{
		{700, 800, 700}, {700, 700, 700}, {700, 699, 699}, {700, 701, 700}, {700, 0, 0}, {700, none, 700},
		{0, 0, 0}, {0, 1, 0}, {0, none, 0}, {1, 0, 0}, {1, 1, 1}, {1, 2, 1},
		{none, 0, 0}, {none, 9, 9}, {none, none - 1, none - 1}, {none, none, none},
		{none - 1, none - 2, none - 2}, {none - 1, none - 1, none - 1}, {none - 1, none, none - 1},
		{1 << 63, 1<<63 - 1, 1<<63 - 1}, {1<<63 - 1, 1 << 63, 1<<63 - 1},
	} {
		for _, hi := range edges {
			for _, lo := range edges {
				b := bound.Bounds{Hi: hi, Lo: lo, Bw: x.bw}
				before := b
				if got := b.Limit(x.rate); got != x.want || b != before {
					t.Errorf("%v: Limit(%d): %d, not %d, and %v behind it", before, x.rate, got, x.want, b)
				}
			}
		}
	}
	for _, bw := range numbers() {
		for _, rate := range []uint64{0, bw / 2, bw - 1, bw, bw + 1, none} { // where these wrap round, they are edges too
			if got := (bound.Bounds{Hi: 1, Lo: 2, Bw: bw}).Limit(rate); got != lesser(rate, bw) {
				t.Errorf("Bw %d: Limit(%d): %d", bw, rate, got)
			}
		}
	}
}

// P13.2 (Lose): a bound that is more than what it is told is not raised; one that is not more is what it is told.
func TestLoseNeverRaises(t *testing.T) {
	lower, more := 0, 0
	all(edges, func(b bound.Bounds) {
		for _, told := range edges {
			for _, have := range few {
				got := b.Lose(told, told, have)
				for _, x := range []struct{ was, is uint64 }{{b.Lo, got.Lo}, {b.Bw, got.Bw}} {
					switch {
					case x.was > told && x.is > x.was:
						t.Errorf("%v: Lose(%d, %d, %d): %v is raised", b, told, told, have, got)
					case x.was > told:
						lower++
					case x.is != told && x.was != none:
						t.Errorf("%v: Lose(%d, %d, %d): %v is not what was told", b, told, told, have, got)
					default:
						more++
					}
				}
				if got.Hi != b.Hi {
					t.Errorf("%v: Lose(%d, %d, %d): %v", b, told, told, have, got)
				}
			}
		}
	})
	if lower == 0 || more == 0 {
		t.Errorf("%d bounds that were more, %d that were not", lower, more)
	}
}

// P13.2 (Push, Short): Push lowers none, and none becomes none; Short lets Hi be.
func TestPushNeverLowers(t *testing.T) {
	all(edges, func(b bound.Bounds) {
		for _, n := range edges {
			got := b.Push(n)
			if got.Hi < b.Hi || got.Lo != b.Lo || got.Bw != b.Bw || (got.Hi == none) != (b.Hi == none) {
				t.Errorf("%v: Push(%d): %v", b, n, got)
			}
			if short := got.Short(); short.Hi != got.Hi {
				t.Errorf("%v: Short: %v", got, short)
			}
		}
	})
}

// step is a call that gives bounds, on these, and on plain ones.
type step struct {
	does  func(b bound.Bounds) bound.Bounds
	plain func(p plain)
}

func lose(flight, rate, have uint64) step {
	return step{func(b bound.Bounds) bound.Bounds { return b.Lose(flight, rate, have) }, func(p plain) { p.lose(flight, rate, have) }}
}

func pull(flight, target uint64) step {
	return step{func(b bound.Bounds) bound.Bounds { return b.Pull(flight, target) }, func(p plain) { p.pull(flight, target) }}
}

func push(n uint64) step {
	return step{func(b bound.Bounds) bound.Bounds { return b.Push(n) }, func(p plain) { p.push(n) }}
}

func short() step { return step{bound.Bounds.Short, plain.short} }

// P13.1 (B1, B2): all rows of up to four calls on no bounds, and of up to two on others, against plain bounds.
func TestRows(t *testing.T) {
	steps := []step{lose(300, 1000, 500), lose(0, 0, none), lose(100, none, 33), lose(none, 7, 0), pull(60, 100), pull(0, none), pull(none, 5), push(0), push(13), push(none), short()}
	var fill func(b bound.Bounds, n int)
	fill = func(b bound.Bounds, n int) {
		for _, x := range []uint64{0, 69, 1000, none} {
			if got, want := ask(b, x, x), of(b).answers(x, x); got != want {
				t.Fatalf("%v with %d: %v, not %v", b, x, got, want)
			}
		}
		if n == 0 {
			return
		}
		for i, s := range steps {
			before, p := b, of(b)
			next := s.does(b)
			s.plain(p)
			if next != p.look() || b != before {
				t.Fatalf("%v, call %d: %v, not %v, and %v behind it", before, i, next, p.look(), b)
			}
			fill(next, n-1)
		}
	}
	fill(bound.None(), 4)
	all([]uint64{0, 10, none - 1, none}, func(b bound.Bounds) { fill(b, 2) })
}

// P13.1, P13.2: a long run, against plain bounds that are carried on by themselves.
func TestLong(t *testing.T) {
	b, p := bound.None(), plain{}
	l := numbers()
	x := uint64(7)
	draw := func() uint64 {
		x = x*6364136223846793005 + 1442695040888963407
		return l[x>>33%uint64(len(l))]
	}
	for i := range 200000 {
		u, v, w := draw(), draw(), draw()
		switch x >> 40 % 8 {
		case 0, 1, 2:
			b = b.Lose(u, v, w)
			p.lose(u, v, w)
		case 3, 4:
			b = b.Pull(u, v)
			p.pull(u, v)
		case 5, 6:
			b = b.Push(u)
			p.push(u)
		default:
			b = b.Short()
			p.short()
		}
		if b != p.look() || ask(b, v, w) != p.answers(v, w) {
			t.Fatalf("behind %d calls: %v with %v, not %v with %v", i+1, b, ask(b, v, w), p.look(), p.answers(v, w))
		}
	}
}

// P1, P2: each call ends, and what it answers hangs on the bounds and its arguments alone, whatever was asked ahead of it.
func TestAgain(t *testing.T) {
	type question struct {
		b       bound.Bounds
		u, v, w uint64
	}
	type answer struct {
		none, lose, pull, push, short bound.Bounds
		numbers                       answers
		cap                           uint64
	}
	of := []uint64{0, 10, none}
	first := map[question]answer{}
	x := uint64(5)
	draw := func() uint64 {
		x = x*6364136223846793005 + 1442695040888963407
		return of[x>>40%3]
	}
	for range 60000 {
		q := question{bound.Bounds{Hi: draw(), Lo: draw(), Bw: draw()}, draw(), draw(), draw()}
		b := q.b
		a := answer{bound.None(), b.Lose(q.u, q.v, q.w), b.Pull(q.u, q.v), b.Push(q.u), b.Short(), ask(b, q.u, q.v), b.Cap(q.u, q.v, q.w)}
		if before, ok := first[q]; ok && a != before {
			t.Fatalf("%v: %v, and %v ahead of that", q, a, before)
		}
		first[q] = a
	}
	if len(first) != 729 {
		t.Errorf("%d questions", len(first))
	}
}
