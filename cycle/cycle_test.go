package cycle_test

import (
	"math"
	"slices"
	"testing"

	"goit/cycle"
)

// greatest is the greatest number.
const greatest = math.MaxUint64

// call is Next(), or Put(l...).
type call struct {
	next bool
	l    []uint64
}

func next() call           { return call{next: true} }
func put(l ...uint64) call { return call{l: l} }

func (c call) do(f *cycle.Cycle) {
	if c.next {
		f.Next()
		return
	}
	f.Put(c.l...)
}

// told is all that a cycle filter tells.
type told struct{ best, count uint64 }

func look(f *cycle.Cycle) told { return told{f.Best(), f.Count()} }

// plain is a cycle filter as the words say it: it has all numbers of all cycles.
type plain struct{ cycles [][]uint64 }

func start() plain { return plain{[][]uint64{nil}} }

// do is what a call makes of it; its lists are not changed.
func (p plain) do(c call) plain {
	cycles := slices.Clone(p.cycles)
	if c.next {
		return plain{append(cycles, nil)}
	}
	last := len(cycles) - 1
	cycles[last] = slices.Concat(cycles[last], c.l)
	return plain{cycles}
}

// look is what it should tell.
func (p plain) look() told {
	last := len(p.cycles) - 1
	s := told{count: uint64(last)}
	for _, l := range p.cycles[max(0, last-1):] {
		for _, x := range l {
			if x > s.best {
				s.best = x
			}
		}
	}
	return s
}

// run makes calls on a new cycle filter, and holds what it tells behind each against a plain one.
func run(t *testing.T, l []call) {
	t.Helper()
	f, p := cycle.New(), start()
	for i, c := range l {
		c.do(f)
		p = p.do(c)
		if got := look(f); got != p.look() {
			t.Fatalf("behind %v: %v, not %v", l[:i+1], got, p.look())
		}
	}
}

// rows calls f with all rows of n of some calls.
func rows(n int, of []call, f func(l []call)) {
	l := make([]call, n)
	var fill func(i int)
	fill = func(i int) {
		if i == n {
			f(l)
			return
		}
		for _, c := range of {
			l[i] = c
			fill(i + 1)
		}
	}
	fill(0)
}

// orders calls f with some numbers in all orders.
func orders(l []uint64, f func(l []uint64)) {
	var fill func(i int)
	fill = func(i int) {
		if i == len(l) {
			f(l)
			return
		}
		for j := i; j < len(l); j++ {
			l[i], l[j] = l[j], l[i]
			fill(i + 1)
			l[i], l[j] = l[j], l[i]
		}
	}
	fill(0)
}

// step is a call, and what is told then.
type step struct {
	call
	told
}

func gives(c call, best, count uint64) step { return step{c, told{best, count}} }

// steps holds a new cycle filter against them, one by one.
func steps(t *testing.T, l ...step) {
	t.Helper()
	f := cycle.New()
	if f == nil {
		t.Fatal("a new cycle filter is nil")
	}
	if got := look(f); got != (told{}) {
		t.Fatalf("a new cycle filter: %v", got)
	}
	for i, s := range l {
		s.do(f)
		if got := look(f); got != s.told {
			t.Fatalf("step %d, %v: %v, not %v", i, s.call, got, s.told)
		}
	}
}

// P6.1 (Y1): without numbers the best is 0, in however many cycles, and so it is when none are put.
func TestNoNumbers(t *testing.T) {
	steps(t,
		gives(put(), 0, 0),
		gives(put([]uint64{}...), 0, 0),
		gives(next(), 0, 1),
		gives(put(), 0, 1),
		gives(next(), 0, 2),
		gives(next(), 0, 3),
	)
}

// P6.1 (Y1): Put without numbers changes nothing, wherever the greatest one is.
func TestPutNone(t *testing.T) {
	steps(t,
		gives(put(6), 6, 0),
		gives(put(), 6, 0),
		gives(next(), 6, 1),
		gives(put(), 6, 1),
		gives(put(5), 6, 1),
		gives(put(), 6, 1),
		gives(next(), 5, 2),
		gives(put(), 5, 2),
		gives(next(), 0, 3),
		gives(put(), 0, 3),
	)
}

// P6.1 (Y1): one number, of a cycle, is the best of it, and of the next one, and no longer.
func TestOne(t *testing.T) {
	for _, x := range []uint64{1, 2, 7, 1 << 31, 1 << 32, 1<<63 - 1, 1 << 63, greatest - 1, greatest} {
		steps(t,
			gives(put(x), x, 0),
			gives(put(x), x, 0),
			gives(next(), x, 1),
			gives(next(), 0, 2),
			gives(next(), 0, 3),
			gives(put(x), x, 3),
			gives(next(), x, 4),
			gives(put(x), x, 4),
			gives(next(), x, 5),
			gives(next(), 0, 6),
		)
	}
}

// P6.1 (Y1): the numbers 0 and 2^64 - 1: with 0 alone the best is 0, and nothing is above the other one.
func TestLeastAndGreatest(t *testing.T) {
	steps(t,
		gives(put(0), 0, 0),
		gives(put(0, 0), 0, 0),
		gives(put(1), 1, 0),
		gives(put(0), 1, 0),
		gives(next(), 1, 1),
		gives(put(0), 1, 1),
		gives(next(), 0, 2),
		gives(put(greatest-1), greatest-1, 2),
		gives(put(greatest), greatest, 2),
		gives(put(greatest-1, greatest, 0), greatest, 2),
		gives(next(), greatest, 3),
		gives(put(greatest-1), greatest, 3),
		gives(put(0), greatest, 3),
		gives(next(), greatest-1, 4),
		gives(put(greatest), greatest, 4),
	)
}

// P6.1 (Y1): many numbers, in any order: at once, one by one, and in two parts, in the first cycle and behind another one.
func TestOrders(t *testing.T) {
	for _, numbers := range [][]uint64{{3, 8}, {3, 8, 5}, {4, 4, 9, 9}, {0, 1, greatest}, {0, 7, 1 << 63, 1<<63 - 1, greatest}} {
		best := slices.Max(numbers)
		orders(numbers, func(l []uint64) {
			for cut := range len(l) + 1 {
				steps(t,
					gives(put(l[:cut]...), bestOf(l[:cut]), 0),
					gives(put(l[cut:]...), best, 0),
					gives(next(), best, 1),
					gives(next(), 0, 2),
					gives(put(l...), best, 2),
				)
			}
			one, behind := cycle.New(), cycle.New()
			put(2, 1).do(behind)
			behind.Next()
			for i, x := range l {
				one.Put(x)
				behind.Put(x)
				if got, want := look(one), (told{bestOf(l[:i+1]), 0}); got != want {
					t.Fatalf("%v, one by one: %v, not %v", l[:i+1], got, want)
				}
				if got, want := look(behind), (told{max(2, bestOf(l[:i+1])), 1}); got != want {
					t.Fatalf("%v, one by one behind 2 and 1: %v, not %v", l[:i+1], got, want)
				}
			}
		})
	}
}

// bestOf is the greatest of numbers; 0 of none.
func bestOf(l []uint64) uint64 {
	if len(l) == 0 {
		return 0
	}
	return slices.Max(l)
}

// P6.1 (Y1: Best): the greatest is in this cycle, in the one ahead, or in both.
func TestWhere(t *testing.T) {
	steps(t, // in the one ahead
		gives(put(3, 8, 5), 8, 0),
		gives(next(), 8, 1),
		gives(put(4), 8, 1),
		gives(put(7, 6), 8, 1),
		gives(next(), 7, 2),
		gives(put(2), 7, 2),
		gives(next(), 2, 3),
	)
	steps(t, // in this one
		gives(put(3), 3, 0),
		gives(next(), 3, 1),
		gives(put(4), 4, 1),
		gives(put(9, 2), 9, 1),
		gives(put(8), 9, 1),
		gives(next(), 9, 2),
		gives(put(10), 10, 2),
		gives(next(), 10, 3),
	)
	steps(t, // in both
		gives(put(6, 5), 6, 0),
		gives(next(), 6, 1),
		gives(put(5, 6), 6, 1),
		gives(next(), 6, 2),
		gives(put(6), 6, 2),
		gives(next(), 6, 3),
		gives(next(), 0, 4),
	)
}

// P6.1 (Y1: Best, Next): behind one Next the first cycle is the one ahead, behind two it is no more, even if it has the greatest number.
func TestTwoNexts(t *testing.T) {
	steps(t,
		gives(put(9), 9, 0),
		gives(next(), 9, 1),
		gives(next(), 0, 2),
	)
	steps(t,
		gives(put(9), 9, 0),
		gives(next(), 9, 1),
		gives(put(1), 9, 1),
		gives(next(), 1, 2),
		gives(put(0), 1, 2),
		gives(next(), 0, 3),
	)
}

// P6.1 (Y1): cycles without numbers between others.
func TestBetween(t *testing.T) {
	steps(t,
		gives(next(), 0, 1),
		gives(put(5), 5, 1),
		gives(next(), 5, 2),
		gives(next(), 0, 3),
		gives(put(3), 3, 3),
		gives(next(), 3, 4),
		gives(next(), 0, 5),
		gives(next(), 0, 6),
		gives(put(4), 4, 6),
		gives(next(), 4, 7),
		gives(put(1), 4, 7),
		gives(next(), 1, 8),
		gives(next(), 0, 9),
	)
}

// P6.1: all rows of six calls of all sorts, and of nine with numbers one by one.
func TestCalls(t *testing.T) {
	some := []call{next(), put(), put(0), put(1), put(2), put(1, 3), put(greatest)}
	rows(6, some, func(l []call) { run(t, l) })
	rows(9, []call{next(), put(1), put(2)}, func(l []call) { run(t, l) })
}

// many is n calls of all sorts, the same ones each time; one of so many is Next.
func many(n int, nexts, numbers uint64) []call {
	var l []call
	dice := uint64(1)
	roll := func(of uint64) uint64 {
		dice = dice*6364136223846793005 + 1442695040888963407
		return dice >> 33 % of
	}
	for range n {
		if roll(nexts) == 0 {
			l = append(l, next())
			continue
		}
		some := make([]uint64, roll(5))
		for i := range some {
			some[i] = roll(numbers)
		}
		l = append(l, put(some...))
	}
	return l
}

// P6.1: long runs.
func TestLong(t *testing.T) {
	for _, nexts := range []uint64{1, 2, 5, 50} {
		for _, numbers := range []uint64{1, 2, 10, 1000000} {
			run(t, many(1000, nexts, numbers))
		}
	}
}

// P6.1 (Y1: Count): a million cycles, of a number each, rising and falling; then as many without.
func TestMillionCycles(t *testing.T) {
	const n = 1000000
	up, down := cycle.New(), cycle.New()
	for i := range uint64(n) {
		up.Put(i + 1)
		down.Put(n - i)
		if got, want := look(up), (told{i + 1, i}); got != want {
			t.Fatalf("rising: %v, not %v", got, want)
		}
		if got, want := look(down), (told{min(n, n-i+1), i}); got != want {
			t.Fatalf("falling: %v, not %v", got, want)
		}
		up.Next()
		down.Next()
	}
	for i := range uint64(n) {
		up.Next()
		if got, want := look(up), (told{0, n + i + 1}); got != want {
			t.Fatalf("without numbers: %v, not %v", got, want)
		}
	}
}

// P6.1 (Y1: Put): a million numbers at once, the greatest first, in the middle, and last.
func TestMillionNumbers(t *testing.T) {
	const n = 1000000
	for _, at := range []int{0, n / 2, n - 1} {
		l := make([]uint64, n)
		for i := range l {
			l[i] = uint64(i)
		}
		l[at] = n
		steps(t,
			gives(put(l...), n, 0),
			gives(next(), n, 1),
			gives(next(), 0, 2),
		)
	}
}

// P6.1 and DOC.md, rule 4: the list that is handed in is not written into, and what lies behind its length is neither read nor written.
func TestListStays(t *testing.T) {
	for n := range 6 {
		l := []uint64{4, 2, 6, 3, 9, greatest}
		f := cycle.New()
		f.Put(l[:n]...)
		if got, want := look(f), (told{bestOf(l[:n]), 0}); got != want {
			t.Errorf("%v: %v, not %v", l[:n], got, want)
		}
		f.Put(l[n:n]...)
		f.Next()
		f.Put(l[:n]...)
		f.Next()
		if got, want := look(f), (told{bestOf(l[:n]), 2}); got != want {
			t.Errorf("%v, once more: %v, not %v", l[:n], got, want)
		}
		if !slices.Equal(l, []uint64{4, 2, 6, 3, 9, greatest}) {
			t.Errorf("the list is %v then", l)
		}
	}
}

// P6.1 and DOC.md, rule 4: the list that is handed in is not kept: what is written into it later changes nothing.
func TestListIsNotKept(t *testing.T) {
	for _, later := range []uint64{0, 7, greatest} {
		l := []uint64{3, 8, 5}
		f := cycle.New()
		hold := func(best, count uint64) {
			t.Helper()
			for i := range l {
				l[i] = later
			}
			if got, want := look(f), (told{best, count}); got != want {
				t.Errorf("with %d written later: %v, not %v", later, got, want)
			}
		}
		f.Put(l...)
		hold(8, 0)
		f.Put(1)
		hold(8, 0)
		f.Next()
		hold(8, 1)
		copy(l, []uint64{2, 6, 4})
		f.Put(l...)
		hold(8, 1)
		f.Next()
		hold(6, 2)
		f.Next()
		hold(0, 3)
	}
}

// P2: two cycle filters beside one another, each told by its own calls alone, with a third one begun between.
func TestBeside(t *testing.T) {
	of := []call{next(), put(), put(1), put(2, 0), put(greatest)}
	rows(4, of, func(l []call) {
		first, other := cycle.New(), cycle.New()
		if first == other {
			t.Fatal("two cycle filters are one")
		}
		p, q := start(), start()
		for i := range l {
			c, d := l[i], l[len(l)-1-i]
			c.do(first)
			p = p.do(c)
			if fresh := look(cycle.New()); fresh != (told{}) {
				t.Fatalf("%v: a new cycle filter tells %v", l, fresh)
			}
			d.do(other)
			q = q.do(d)
			if look(first) != p.look() || look(other) != q.look() {
				t.Fatalf("%v: %v and %v, not %v and %v", l, look(first), look(other), p.look(), q.look())
			}
		}
	})
}

// P2: a cycle filter hangs not on how often it is looked at: it tells the same if it never was, and again and again.
func TestLooking(t *testing.T) {
	of := []call{next(), put(1), put(2, 0), put(3)}
	rows(6, of, func(l []call) {
		f, p := cycle.New(), start()
		for _, c := range l {
			c.do(f)
			p = p.do(c)
		}
		for range 3 {
			if got := look(f); got != p.look() {
				t.Fatalf("behind %v: %v, not %v", l, got, p.look())
			}
		}
	})
}

// P6.1 (Y1), P1 and DOC.md, rule 8: a nil cycle filter, at every call.
func TestNil(t *testing.T) {
	var f *cycle.Cycle
	l := []uint64{3, 8, 5}
	for _, c := range []call{put(), put(0), put(1), put(greatest), put(l...), next(), put(2), next(), next()} {
		c.do(f)
		if got := look(f); got != (told{}) || f != nil {
			t.Errorf("nil, %v: %v", c, got)
		}
	}
	if !slices.Equal(l, []uint64{3, 8, 5}) {
		t.Errorf("nil: the list is %v then", l)
	}
	if got := look(cycle.New()); got != (told{}) {
		t.Errorf("behind a nil one a new one tells %v", got)
	}
}
