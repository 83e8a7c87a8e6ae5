package filt_test

import (
	"math"
	"slices"
	"testing"

	"goit/api"
	"goit/filt"
)

// greatest is the greatest number, and the last time.
const greatest = math.MaxUint64

// call is To(t), or Put(t, x).
type call struct {
	put  bool
	t, x uint64
}

func to(t uint64) call     { return call{false, t, 0} }
func put(t, x uint64) call { return call{true, t, x} }

func (c call) do(f *filt.Filter) api.Errno {
	if c.put {
		return f.Put(c.t, c.x)
	}
	return f.To(c.t)
}

// told is all that a filter tells.
type told struct {
	time, best, at uint64
	some           bool
}

func look(f *filt.Filter) told {
	best, at, some := f.Best()
	return told{f.Time(), best, at, some}
}

// reading is one that was put.
type reading struct{ time, number uint64 }

// plain is a filter as the words say it: it has all readings, whether or not they count.
type plain struct {
	least        bool
	window, time uint64
	readings     []reading
}

// make is the filter that a plain one says.
func (p plain) make() *filt.Filter {
	if p.least {
		return filt.Least(p.window)
	}
	return filt.Most(p.window)
}

// do is what a call makes of it, and what that answers.
func (p plain) do(c call) (plain, api.Errno) {
	if c.t < p.time {
		return p, api.ErrRange
	}
	p.time = c.t
	if c.put {
		p.readings = append(slices.Clone(p.readings), reading{c.t, c.x})
	}
	return p, api.OK
}

// counting is the readings that count. None is later than the filter: the window is held against what lies between them, without a sum.
func (p plain) counting() []reading {
	var l []reading
	for _, r := range p.readings {
		if p.time-r.time <= p.window {
			l = append(l, r)
		}
	}
	return l
}

// look is what it should tell.
func (p plain) look() told {
	s := told{time: p.time}
	for _, r := range p.counting() {
		if !s.some || r.number == s.best || (r.number < s.best) == p.least {
			s.best, s.at, s.some = r.number, r.time, true
		}
	}
	return s
}

// kinds are filters of a window: for the greatest, and for the least.
func kinds(window uint64) []plain {
	return []plain{{window: window}, {window: window, least: true}}
}

// run makes calls on a filter and on a plain one, holds the answers, and what is told behind each, against each other, and tells the plain one then.
func run(t *testing.T, f *filt.Filter, p plain, l []call) plain {
	t.Helper()
	for i, c := range l {
		next, want := p.do(c)
		if err := c.do(f); err != want {
			t.Fatalf("%+v: behind %v, %v: error %d, not %d", p, l[:i], c, err, want)
		}
		p = next
		if got := look(f); got != p.look() {
			t.Fatalf("%+v: behind %v: %v, not %v", p, l[:i+1], got, p.look())
		}
	}
	return p
}

// rows calls f with all rows of n of some calls.
func rows(n int, of []call, f func(l []call)) {
	l := make([]call, n)
	var fill func(i int)
	fill = func(i int) {
		if i == n {
			f(l)
			return
		}
		for _, c := range of {
			l[i] = c
			fill(i + 1)
		}
	}
	fill(0)
}

// around is calls at times, with numbers.
func around(times, numbers []uint64) []call {
	var l []call
	for _, t := range times {
		l = append(l, to(t))
		for _, x := range numbers {
			l = append(l, put(t, x))
		}
	}
	return l
}

// step is a call, its answer, and what is told then.
type step struct {
	call
	err api.Errno
	told
}

func gives(c call, err api.Errno, time, best, at uint64, some bool) step {
	return step{c, err, told{time, best, at, some}}
}

// steps holds a new filter against them, one by one.
func steps(t *testing.T, f *filt.Filter, l ...step) {
	t.Helper()
	if f == nil {
		t.Fatal("a new filter is nil")
	}
	if got := look(f); got != (told{}) {
		t.Fatalf("a new filter: %v", got)
	}
	for i, s := range l {
		if err := s.do(f); err != s.err || look(f) != s.told {
			t.Fatalf("step %d, %v: error %d, %v, not error %d, %v", i, s.call, err, look(f), s.err, s.told)
		}
	}
}

// P5.1 (T1): a filter without readings, of any window: its time goes on, and there is no best.
func TestNoReadings(t *testing.T) {
	for _, window := range []uint64{0, 1, 10, greatest} {
		for _, p := range kinds(window) {
			steps(t, p.make(),
				gives(to(0), api.OK, 0, 0, 0, false),
				gives(to(7), api.OK, 7, 0, 0, false),
				gives(to(7), api.OK, 7, 0, 0, false),
				gives(to(6), api.ErrRange, 7, 0, 0, false),
				gives(put(6, 5), api.ErrRange, 7, 0, 0, false),
				gives(to(greatest), api.OK, greatest, 0, 0, false),
				gives(to(greatest-1), api.ErrRange, greatest, 0, 0, false),
			)
		}
	}
}

// P5.1 (T1): the second of the document's examples of the whole.
func TestExample(t *testing.T) {
	steps(t, filt.Least(10),
		gives(put(1, 5), api.OK, 1, 5, 1, true),
		gives(put(4, 7), api.OK, 4, 5, 1, true),
		gives(to(11), api.OK, 11, 5, 1, true),
		gives(to(12), api.OK, 12, 7, 4, true),
		gives(to(14), api.OK, 14, 7, 4, true),
		gives(to(15), api.OK, 15, 0, 0, false),
	)
}

// P5.1 (Words): a reading counts up to the last microsecond of its window, and not one beyond it.
func TestWindow(t *testing.T) {
	for _, p := range kinds(0) {
		steps(t, p.make(),
			gives(put(0, 3), api.OK, 0, 3, 0, true),
			gives(to(0), api.OK, 0, 3, 0, true),
			gives(to(1), api.OK, 1, 0, 0, false),
			gives(put(1, 4), api.OK, 1, 4, 1, true),
			gives(put(2, 4), api.OK, 2, 4, 2, true),
			gives(to(3), api.OK, 3, 0, 0, false),
		)
	}
	for _, p := range kinds(1) {
		steps(t, p.make(),
			gives(put(5, 3), api.OK, 5, 3, 5, true),
			gives(to(6), api.OK, 6, 3, 5, true),
			gives(to(7), api.OK, 7, 0, 0, false),
		)
	}
	for _, p := range kinds(1000) {
		steps(t, p.make(),
			gives(put(5, 3), api.OK, 5, 3, 5, true),
			gives(to(1004), api.OK, 1004, 3, 5, true),
			gives(to(1005), api.OK, 1005, 3, 5, true),
			gives(to(1006), api.OK, 1006, 0, 0, false),
		)
	}
	for _, p := range kinds(greatest) {
		steps(t, p.make(),
			gives(put(0, 3), api.OK, 0, 3, 0, true),
			gives(to(greatest-1), api.OK, greatest-1, 3, 0, true),
			gives(to(greatest), api.OK, greatest, 3, 0, true),
		)
	}
	for _, p := range kinds(greatest - 1) {
		steps(t, p.make(),
			gives(put(0, 3), api.OK, 0, 3, 0, true),
			gives(to(greatest-1), api.OK, greatest-1, 3, 0, true),
			gives(to(greatest), api.OK, greatest, 0, 0, false),
		)
	}
}

// P5.1 (Words): a reading that is put may be the one that the one ahead of it stops to count with.
func TestWindowAtPut(t *testing.T) {
	steps(t, filt.Most(10),
		gives(put(1, 9), api.OK, 1, 9, 1, true),
		gives(put(11, 2), api.OK, 11, 9, 1, true),
		gives(put(12, 1), api.OK, 12, 2, 11, true),
	)
	steps(t, filt.Least(10),
		gives(put(1, 1), api.OK, 1, 1, 1, true),
		gives(put(11, 8), api.OK, 11, 1, 1, true),
		gives(put(12, 9), api.OK, 12, 8, 11, true),
	)
}

// P5.1 (Words): of readings that are as good, at one time and at several, the time of the last one is told, and it counts that long.
func TestAsGood(t *testing.T) {
	for _, p := range kinds(10) {
		steps(t, p.make(),
			gives(put(3, 9), api.OK, 3, 9, 3, true),
			gives(put(3, 9), api.OK, 3, 9, 3, true),
			gives(put(5, 9), api.OK, 5, 9, 5, true),
			gives(put(8, 9), api.OK, 8, 9, 8, true),
			gives(to(18), api.OK, 18, 9, 8, true),
			gives(to(19), api.OK, 19, 0, 0, false),
		)
	}
	steps(t, filt.Most(10),
		gives(put(1, 9), api.OK, 1, 9, 1, true),
		gives(put(2, 4), api.OK, 2, 9, 1, true),
		gives(put(3, 9), api.OK, 3, 9, 3, true),
		gives(put(4, 6), api.OK, 4, 9, 3, true),
		gives(put(4, 7), api.OK, 4, 9, 3, true),
		gives(put(5, 7), api.OK, 5, 9, 3, true),
		gives(to(14), api.OK, 14, 7, 5, true),
	)
	steps(t, filt.Least(10),
		gives(put(1, 2), api.OK, 1, 2, 1, true),
		gives(put(2, 5), api.OK, 2, 2, 1, true),
		gives(put(3, 2), api.OK, 3, 2, 3, true),
		gives(put(4, 8), api.OK, 4, 2, 3, true),
		gives(put(4, 7), api.OK, 4, 2, 3, true),
		gives(put(5, 7), api.OK, 5, 2, 3, true),
		gives(to(14), api.OK, 14, 7, 5, true),
	)
}

// P5.1 (T1: Most): readings that get greater, and less.
func TestMost(t *testing.T) {
	steps(t, filt.Most(10),
		gives(put(1, 1), api.OK, 1, 1, 1, true),
		gives(put(2, 5), api.OK, 2, 5, 2, true),
		gives(put(3, greatest), api.OK, 3, greatest, 3, true),
		gives(to(13), api.OK, 13, greatest, 3, true),
		gives(to(14), api.OK, 14, 0, 0, false),
	)
	steps(t, filt.Most(10),
		gives(put(1, greatest), api.OK, 1, greatest, 1, true),
		gives(put(2, 5), api.OK, 2, greatest, 1, true),
		gives(put(3, 0), api.OK, 3, greatest, 1, true),
		gives(to(11), api.OK, 11, greatest, 1, true),
		gives(to(12), api.OK, 12, 5, 2, true),
		gives(to(13), api.OK, 13, 0, 3, true), // a best of 0 is one
		gives(to(14), api.OK, 14, 0, 0, false),
	)
}

// P5.1 (T1: Least): readings that get less, and greater.
func TestLeast(t *testing.T) {
	steps(t, filt.Least(10),
		gives(put(1, greatest), api.OK, 1, greatest, 1, true),
		gives(put(2, 5), api.OK, 2, 5, 2, true),
		gives(put(3, 0), api.OK, 3, 0, 3, true),
		gives(to(13), api.OK, 13, 0, 3, true),
		gives(to(14), api.OK, 14, 0, 0, false),
	)
	steps(t, filt.Least(10),
		gives(put(1, 0), api.OK, 1, 0, 1, true),
		gives(put(2, 5), api.OK, 2, 0, 1, true),
		gives(put(3, greatest), api.OK, 3, 0, 1, true),
		gives(to(11), api.OK, 11, 0, 1, true),
		gives(to(12), api.OK, 12, 5, 2, true),
		gives(to(13), api.OK, 13, greatest, 3, true),
		gives(to(14), api.OK, 14, 0, 0, false),
	)
}

// P5.1 (T1: To, Put) and DOC.md, rule 3: a time that falls is ErrRange, and nothing is changed, neither time nor readings.
func TestFalls(t *testing.T) {
	for _, better := range []uint64{0, 6, greatest} {
		for _, p := range kinds(10) {
			steps(t, p.make(),
				gives(put(5, 6), api.OK, 5, 6, 5, true),
				gives(to(4), api.ErrRange, 5, 6, 5, true),
				gives(put(4, better), api.ErrRange, 5, 6, 5, true),
				gives(to(0), api.ErrRange, 5, 6, 5, true),
				gives(put(0, better), api.ErrRange, 5, 6, 5, true),
				gives(to(15), api.OK, 15, 6, 5, true),
				gives(put(14, better), api.ErrRange, 15, 6, 5, true),
				gives(to(16), api.OK, 16, 0, 0, false),
				gives(put(15, better), api.ErrRange, 16, 0, 0, false),
				gives(to(16), api.OK, 16, 0, 0, false),
				gives(put(16, 7), api.OK, 16, 7, 16, true),
			)
		}
	}
}

// P5.1 (Words) and DOC.md, rule 10: time and window together do not wrap round.
func TestLastTimes(t *testing.T) {
	for _, window := range []uint64{1, 2, 10, 1 << 63, greatest} {
		for _, p := range kinds(window) {
			steps(t, p.make(),
				gives(put(greatest-1, 6), api.OK, greatest-1, 6, greatest-1, true),
				gives(to(greatest), api.OK, greatest, 6, greatest-1, true),
				gives(put(greatest, 6), api.OK, greatest, 6, greatest, true),
				gives(to(greatest), api.OK, greatest, 6, greatest, true),
				gives(put(greatest-1, 6), api.ErrRange, greatest, 6, greatest, true),
			)
		}
	}
	for _, p := range kinds(0) {
		steps(t, p.make(),
			gives(put(greatest-1, 6), api.OK, greatest-1, 6, greatest-1, true),
			gives(to(greatest), api.OK, greatest, 0, 0, false),
			gives(put(greatest, 6), api.OK, greatest, 6, greatest, true),
		)
	}
	for _, p := range kinds(5) {
		steps(t, p.make(),
			gives(put(greatest-6, 6), api.OK, greatest-6, 6, greatest-6, true),
			gives(to(greatest-1), api.OK, greatest-1, 6, greatest-6, true),
			gives(to(greatest), api.OK, greatest, 0, 0, false),
		)
	}
}

// P5.1 (T1: To, Best): when nothing counts any more, by To alone, there is no best, till a new reading is put.
func TestNothingCounts(t *testing.T) {
	for _, p := range kinds(10) {
		steps(t, p.make(),
			gives(put(1, 5), api.OK, 1, 5, 1, true),
			gives(put(2, 6), api.OK, 2, p.pick(5, 6), p.pick(1, 2), true),
			gives(put(3, 5), api.OK, 3, p.pick(5, 6), p.pick(3, 2), true),
			gives(to(100), api.OK, 100, 0, 0, false),
			gives(to(100), api.OK, 100, 0, 0, false),
			gives(to(101), api.OK, 101, 0, 0, false),
			gives(put(101, p.pick(9, 1)), api.OK, 101, p.pick(9, 1), 101, true), // worse than all ahead
			gives(to(111), api.OK, 111, p.pick(9, 1), 101, true),
			gives(to(112), api.OK, 112, 0, 0, false),
		)
	}
}

// pick is the one for the least, or the one for the greatest.
func (p plain) pick(least, most uint64) uint64 {
	if p.least {
		return least
	}
	return most
}

// P5.1: all rows of four calls, at few times with few numbers, of all windows that tell these times apart, from 0 on and up to the last time.
func TestCalls(t *testing.T) {
	for _, base := range []uint64{0, greatest - 3} {
		of := around([]uint64{base, base + 1, base + 2, base + 3}, []uint64{0, 1, 2})
		for _, window := range []uint64{0, 1, 2, 3, greatest} {
			for _, p := range kinds(window) {
				rows(4, of, func(l []call) { run(t, p.make(), p, l) })
			}
		}
	}
}

// P5.1 and P1: all rows of three calls at the edges of times, numbers and windows.
func TestEdges(t *testing.T) {
	of := around([]uint64{0, 1, 1 << 63, greatest - 1, greatest}, []uint64{0, 1, greatest - 1, greatest})
	for _, window := range []uint64{0, 1, 1<<63 - 1, 1 << 63, greatest - 1, greatest} {
		for _, p := range kinds(window) {
			rows(3, of, func(l []call) { run(t, p.make(), p, l) })
		}
	}
}

// many is n calls of all sorts, the same ones each time: time goes on by little, stands, or falls.
func many(n int, numbers uint64) []call {
	var l []call
	dice, time := uint64(1), uint64(0)
	for range n {
		dice = dice*6364136223846793005 + 1442695040888963407
		roll := dice >> 33
		switch roll % 8 {
		case 0:
			l = append(l, put(time-min(time, 1), roll>>3%numbers))
			continue
		case 1:
			time += roll >> 3 % 30
			l = append(l, to(time))
			continue
		case 2, 3, 4:
			time += roll >> 3 % 4
		}
		l = append(l, put(time, roll>>5%numbers))
	}
	return l
}

// P5.1: long runs.
func TestLong(t *testing.T) {
	for _, numbers := range []uint64{1, 3, 20, 1000000} {
		l := many(1500, numbers)
		for _, window := range []uint64{0, 1, 2, 7, 40, 400, greatest} {
			for _, p := range kinds(window) {
				run(t, p.make(), p, l)
			}
		}
	}
}

// P5.1: a million readings, each worse than the one ahead; half of them stop to count; then one as good as the best, and one better than all.
func TestMillion(t *testing.T) {
	const n = 1000000
	for _, p := range kinds(n) {
		f := p.make()
		for i := range uint64(n) {
			if err := f.Put(i, p.pick(i+1, n-i)); err != api.OK {
				t.Fatalf("Put: %d", err)
			}
			if got, want := look(f), (told{i, p.pick(1, n), 0, true}); got != want {
				t.Fatalf("%v, not %v", got, want)
			}
		}
		for i := range uint64(n / 2) {
			f.To(n + i)
			if got, want := look(f), (told{n + i, p.pick(i+1, n-i), i, true}); got != want {
				t.Fatalf("%v, not %v", got, want)
			}
		}
		at, best := uint64(n+n/2-1), p.pick(n/2, n/2+1)
		f.Put(at, best)
		if got, want := look(f), (told{at, best, at, true}); got != want {
			t.Fatalf("%v, not %v", got, want)
		}
		f.Put(at, p.pick(0, n+1))
		if got, want := look(f), (told{at, p.pick(0, n+1), at, true}); got != want {
			t.Fatalf("%v, not %v", got, want)
		}
	}
}

// P5.2: with no reading that counts there is no best; with one there is, it counts, it was put, and no reading that counts is better.
func TestFew(t *testing.T) {
	none, some := 0, 0
	few := func(p plain, f *filt.Filter, l []call) {
		for _, c := range l {
			p, _ = p.do(c)
			c.do(f)
			best, at, ok := f.Best()
			counting := p.counting()
			if ok != (len(counting) > 0) {
				t.Fatalf("%+v: %d readings count, and there is a best: %t", p, len(counting), ok)
			}
			if !ok {
				none++
				continue
			}
			some++
			if !slices.Contains(counting, reading{at, best}) {
				t.Fatalf("%+v: the best is %d at %d, which does not count", p, best, at)
			}
			for _, r := range counting {
				if r.number != best && (r.number < best) == p.least {
					t.Fatalf("%+v: the best is %d at %d, and %v is better", p, best, at, r)
				}
			}
		}
	}
	of := around([]uint64{0, 1, 2, greatest - 1, greatest}, []uint64{0, 7, greatest})
	for _, window := range []uint64{0, 1, 2, greatest - 1, greatest} {
		for _, p := range kinds(window) {
			rows(3, of, func(l []call) { few(p, p.make(), l) })
			few(p, p.make(), many(500, 9))
		}
	}
	if none == 0 || some == 0 {
		t.Errorf("%d times none counted, %d times some did", none, some)
	}
}

// P5.1 (T1: Clone): another one, with the same, whatever was called ahead; then either one changes alone.
func TestClone(t *testing.T) {
	ahead := around([]uint64{0, 1, 3}, []uint64{1, 2})
	behind := around([]uint64{2, 3, 4}, []uint64{0, 1, 3})
	for _, window := range []uint64{0, 1, 2, greatest} {
		for _, p := range kinds(window) {
			rows(3, ahead, func(l []call) {
				f := p.make()
				was := run(t, f, p, l)
				rows(1, behind, func(more []call) {
					first, other := f.Clone(), f.Clone()
					if first == nil || first == f || first == other {
						t.Fatalf("%+v: Clone is no other one", was)
					}
					hold(t, was, f, first, other)
					run(t, first, was, more)
					hold(t, was, f, other)
					third := other.Clone()
					run(t, other, was, append(slices.Clone(more), put(5, 0), put(6, 9), to(7)))
					hold(t, was, f, third)
					run(t, third, was, []call{to(3), to(4), to(5), to(6)})
				})
			})
		}
	}
}

// hold holds filters against what a plain one tells.
func hold(t *testing.T, p plain, l ...*filt.Filter) {
	t.Helper()
	for i, f := range l {
		if got := look(f); got != p.look() {
			t.Fatalf("%+v, filter %d: %v, not %v", p, i, got, p.look())
		}
	}
}

// P5.1 (T1: Clone): the first filter changes, by long runs, and the clones do not; nor the other way round.
func TestCloneStays(t *testing.T) {
	l := many(600, 50)
	for _, window := range []uint64{0, 5, 60, greatest} {
		for _, p := range kinds(window) {
			for _, cut := range []int{0, 1, 10, 100, 300} {
				f := p.make()
				was := run(t, f, p, l[:cut])
				other := f.Clone()
				then := run(t, f, was, l[cut:])
				hold(t, was, other)
				run(t, other, was, append([]call{put(was.time, 25)}, l[cut:]...))
				hold(t, then, f)
			}
		}
	}
}

// P5.1 (T1), P1 and DOC.md, rule 8: a nil filter, at every call.
func TestNil(t *testing.T) {
	var f *filt.Filter
	for range 2 {
		if got := look(f); got != (told{}) {
			t.Errorf("nil: %v", got)
		}
		for _, c := range around([]uint64{0, 1, greatest}, []uint64{0, 1, greatest}) {
			if err := c.do(f); err != api.ErrArg {
				t.Errorf("nil, %v: %d, not ErrArg", c, err)
			}
		}
		if other := f.Clone(); other != nil {
			t.Errorf("nil: Clone is %v", other)
		}
	}
}

// P2: a filter hangs on its own calls alone, not on another one's, and not on how often it is looked at or cloned.
func TestOwnCallsAlone(t *testing.T) {
	of := around([]uint64{0, 1, 3}, []uint64{0, 1, 2})
	for _, window := range []uint64{0, 1, 2, greatest} {
		for _, p := range kinds(window) {
			rows(3, of, func(l []call) {
				alone := p.make()
				for _, c := range l {
					c.do(alone)
				}
				f, same := p.make(), p.make()
				other := plain{least: !p.least, window: 1}.make()
				for i, c := range l {
					l[len(l)-1-i].do(same)
					put(uint64(i), uint64(i)).do(other)
					look(f)
					f.Clone()
					look(f)
					c.do(f)
				}
				if look(f) != look(alone) {
					t.Fatalf("%+v, %v: %v beside others, %v alone", p, l, look(f), look(alone))
				}
				if fresh := look(p.make()); fresh != (told{}) {
					t.Fatalf("%+v, %v: then a new filter tells %v", p, l, fresh)
				}
			})
		}
	}
}

// needed is how many readings may yet be the best: those that count, and that none put later is as good as.
func (p plain) needed() int {
	l := p.counting()
	n := 0
	for i, r := range l {
		beaten := false
		for _, later := range l[i+1:] {
			beaten = beaten || later.number == r.number || (later.number < r.number) == p.least
		}
		if !beaten {
			n++
		}
	}
	return n
}

// LANGUAGE.md, rule 8: a filter keeps the readings that may yet be the best, and no others; DOC.md, section Ways: its row's calls are promoted.
func TestKept(t *testing.T) {
	for _, numbers := range []uint64{1, 3, 1000} {
		for _, window := range []uint64{0, 1, 10, 200, greatest} {
			for _, p := range kinds(window) {
				f := p.make()
				for _, c := range many(400, numbers) {
					p, _ = p.do(c)
					c.do(f)
					if got := f.Len(); got != p.needed() {
						t.Fatalf("%+v, behind %v: %d readings are kept, not %d", p, c, got, p.needed())
					}
				}
			}
		}
	}
}
