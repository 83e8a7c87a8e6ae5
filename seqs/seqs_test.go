package seqs_test

import (
	"math"
	"slices"
	"testing"

	"goit/api"
	"goit/seqs"
)

// greatest is the greatest number: no packet has it.
const greatest = math.MaxUint64

// to is a range, one a range of one number.
func to(from, to uint64) api.Range { return api.Range{From: from, To: to} }
func one(n uint64) api.Range       { return to(n, n) }

// call is Cut(n), or Put(l...).
type call struct {
	cut bool
	n   uint64
	l   []api.Range
}

func cut(n uint64) call       { return call{cut: true, n: n} }
func put(l ...api.Range) call { return call{l: l} }

func (c call) do(s *seqs.Set) api.Errno {
	if c.cut {
		s.Cut(c.n)
		return api.OK
	}
	return s.Put(c.l...)
}

// plain is a set as the words say it: it tells of each number, from the lowest one on, whether it is in it; numbers below and above are not put.
type plain struct {
	lowest uint64
	in     []bool
}

// start is a plain set of so many numbers that may be put.
func start(lowest uint64, n int) plain { return plain{lowest, make([]bool, n)} }

// ends are two plain sets of n numbers: the first ones, and the last ones.
func ends(n int) []plain { return []plain{start(0, n), start(greatest-uint64(n), n)} }

// do changes it by a call, and tells what that answers.
func (p plain) do(c call) api.Errno {
	for _, r := range c.l {
		if r.From > r.To || r.To == greatest {
			return api.ErrArg
		}
	}
	for _, r := range c.l {
		for n := r.From; n <= r.To; n++ {
			p.in[n-p.lowest] = true
		}
	}
	for i := range p.in {
		if c.cut && p.lowest+uint64(i) < c.n {
			p.in[i] = false
		}
	}
	return api.OK
}

// all is its ranges.
func (p plain) all() []api.Range {
	var l []api.Range
	for i, in := range p.in {
		n := p.lowest + uint64(i)
		switch {
		case in && i > 0 && p.in[i-1]:
			l[len(l)-1].To = n
		case in:
			l = append(l, one(n))
		}
	}
	return l
}

// tells holds what a set tells of a number against whether it is in it, and the first one, from there on, that is not.
func tells(t *testing.T, s *seqs.Set, n uint64, in bool, gap uint64) {
	if got := s.Has(n); got != in {
		t.Fatalf("%v: Has(%d) is %v", s.All(), n, got)
	}
	if got := s.Gap(n); got != gap {
		t.Fatalf("%v: Gap(%d) is %d, not %d", s.All(), n, got, gap)
	}
}

// hold holds all that a set tells against ranges that are apart: at each range's ends and in it, beside it, and in the gaps.
func hold(t *testing.T, s *seqs.Set, l []api.Range) {
	t.Helper()
	if got := s.All(); !slices.Equal(got, l) {
		t.Fatalf("%v, not %v", got, l)
	}
	free := uint64(0) // the first number behind the ranges so far
	for _, r := range l {
		if free < r.From {
			for _, n := range []uint64{free, free + (r.From-free)/2, r.From - 1} {
				tells(t, s, n, false, n)
			}
		}
		for _, n := range []uint64{r.From, r.From + (r.To-r.From)/2, r.To} {
			tells(t, s, n, true, r.To+1)
		}
		free = r.To + 1
	}
	for _, n := range []uint64{free, free + (greatest-free)/2, greatest - min(1, greatest-free), greatest} {
		tells(t, s, n, false, n)
	}
}

// apart tells whether ranges rise, and have a number between two of them.
func apart(l []api.Range) bool {
	for i, r := range l {
		if r.From > r.To || r.To == greatest {
			return false
		}
		if i > 0 && (r.From <= l[i-1].To || r.From-l[i-1].To < 2) {
			return false
		}
	}
	return true
}

// run makes calls on a set and on a plain one, and holds the answers, and what is told behind each, against each other.
func run(t *testing.T, s *seqs.Set, p plain, l []call) {
	t.Helper()
	for i, c := range l {
		want := p.do(c)
		if err := c.do(s); err != want {
			t.Fatalf("behind %v, %v: error %d, not %d", l[:i], c, err, want)
		}
		hold(t, s, p.all())
	}
}

// rows calls f with all rows of n of some calls.
func rows(n int, of []call, f func(l []call)) {
	l := make([]call, n)
	var fill func(i int)
	fill = func(i int) {
		if i == n {
			f(l)
			return
		}
		for _, c := range of {
			l[i] = c
			fill(i + 1)
		}
	}
	fill(0)
}

// orders calls f with some ranges in all orders.
func orders(l []api.Range, f func(l []api.Range)) {
	var fill func(i int)
	fill = func(i int) {
		if i == len(l) {
			f(l)
			return
		}
		for j := i; j < len(l); j++ {
			l[i], l[j] = l[j], l[i]
			fill(i + 1)
			l[i], l[j] = l[j], l[i]
		}
	}
	fill(0)
}

// within is all ranges of n numbers, from the lowest one on.
func within(lowest uint64, n int) []api.Range {
	var l []api.Range
	for i := range uint64(n) {
		for j := i; j < uint64(n); j++ {
			l = append(l, to(lowest+i, lowest+j))
		}
	}
	return l
}

// step is a call, its answer, and the ranges then.
type step struct {
	call
	err api.Errno
	all []api.Range
}

func gives(c call, all ...api.Range) step                { return step{c, api.OK, all} }
func fails(c call, err api.Errno, all ...api.Range) step { return step{c, err, all} }

// steps holds a new set against them, one by one.
func steps(t *testing.T, l ...step) {
	t.Helper()
	s := seqs.New()
	if s == nil {
		t.Fatal("a new set is nil")
	}
	hold(t, s, nil)
	for i, x := range l {
		if err := x.do(s); err != x.err {
			t.Fatalf("step %d, %v: error %d, not %d", i, x.call, err, x.err)
		}
		hold(t, s, x.all)
	}
}

// P7.1 (Q1): an empty set, and Put without ranges.
func TestEmpty(t *testing.T) {
	steps(t,
		gives(put()),
		gives(cut(0)),
		gives(cut(7)),
		gives(put()),
		gives(cut(greatest)),
		gives(put([]api.Range{}...)),
	)
	steps(t,
		gives(put(to(3, 5)), to(3, 5)),
		gives(put(), to(3, 5)),
		gives(put([]api.Range{}...), to(3, 5)),
	)
}

// P7.1 (Q1): one range, from the first number to the last that may be put, and that range once more.
func TestOne(t *testing.T) {
	ends := []uint64{0, 1, 2, 7, 1 << 32, 1 << 63, greatest - 2, greatest - 1}
	for i, from := range ends {
		for _, last := range ends[i:] {
			steps(t,
				gives(put(to(from, last)), to(from, last)),
				gives(put(to(from, last)), to(from, last)),
				gives(put(one(from), one(last)), to(from, last)),
			)
		}
	}
}

// P7.1 (Words): two ranges, put one by one and at once, in both orders: apart, with one number between, touching, overlapping, one within the other, and the same.
func TestTwo(t *testing.T) {
	for _, c := range []struct {
		a, b api.Range
		all  []api.Range
	}{
		{to(2, 4), to(9, 11), []api.Range{to(2, 4), to(9, 11)}},                                   // apart
		{one(0), one(greatest - 1), []api.Range{one(0), one(greatest - 1)}},                       // far apart
		{to(2, 4), to(7, 9), []api.Range{to(2, 4), to(7, 9)}},                                     // two numbers between
		{to(2, 4), to(6, 9), []api.Range{to(2, 4), to(6, 9)}},                                     // one number between
		{one(0), one(2), []api.Range{one(0), one(2)}},                                             // 1 alone between
		{one(greatest - 3), one(greatest - 1), []api.Range{one(greatest - 3), one(greatest - 1)}}, // the last number that may be between
		{to(2, 4), to(5, 9), []api.Range{to(2, 9)}},                                               // touching
		{one(0), one(1), []api.Range{to(0, 1)}},                                                   // touching, the first ones
		{one(greatest - 2), one(greatest - 1), []api.Range{to(greatest-2, greatest-1)}},           // touching, the last ones
		{to(0, 1<<63-1), to(1<<63, greatest-1), []api.Range{to(0, greatest-1)}},                   // touching, all numbers
		{to(2, 4), to(4, 9), []api.Range{to(2, 9)}},                                               // overlapping in one number
		{to(2, 6), to(4, 9), []api.Range{to(2, 9)}},                                               // overlapping
		{to(0, greatest-2), to(1, greatest-1), []api.Range{to(0, greatest-1)}},                    // overlapping in nearly all
		{to(2, 9), to(4, 6), []api.Range{to(2, 9)}},                                               // within
		{to(2, 9), to(2, 6), []api.Range{to(2, 9)}},                                               // within, with the same first number
		{to(2, 9), to(4, 9), []api.Range{to(2, 9)}},                                               // within, with the same last number
		{to(0, greatest-1), one(5), []api.Range{to(0, greatest-1)}},                               // within all
		{to(2, 9), to(2, 9), []api.Range{to(2, 9)}},                                               // the same
		{one(0), one(0), []api.Range{one(0)}},                                                     // the same, of one number
		{one(greatest - 1), one(greatest - 1), []api.Range{one(greatest - 1)}},                    // the same, the last one
	} {
		steps(t, gives(put(c.a), c.a), gives(put(c.b), c.all...))
		steps(t, gives(put(c.b), c.b), gives(put(c.a), c.all...))
		steps(t, gives(put(c.a, c.b), c.all...))
		steps(t, gives(put(c.b, c.a), c.all...))
		steps(t, gives(put(c.a, c.b, c.a, c.b, c.b), c.all...))
	}
}

// P7.1 (Q1: Put): many ranges in all orders, at once, one by one, and some of them ahead of the others.
func TestOrders(t *testing.T) {
	for _, l := range [][]api.Range{
		{one(0), to(2, 3), to(5, 9), one(11), to(13, 20), to(30, 31)},    // apart
		{one(0), one(1), to(2, 5), one(6), to(7, 9), one(10)},            // touching
		{to(0, 3), to(2, 5), to(4, 8), to(8, 9), to(20, 22), to(22, 23)}, // overlapping
		{to(0, 30), to(2, 25), to(3, 4), one(9), to(26, 28), one(31)},    // within one another
		{to(7, 9), to(7, 9), one(8), one(8), to(1, 2), to(1, 2)},         // the same
		{one(0), to(40, 40), to(1, 39), to(0, 40), to(42, 43), one(45)},  // two, and what fills the gap
	} {
		p := start(0, 64)
		p.do(put(l...))
		all := p.all()
		orders(l, func(l []api.Range) {
			s := seqs.New()
			s.Put(l...)
			hold(t, s, all)
			run(t, seqs.New(), start(0, 64), []call{put(l[0]), put(l[1]), put(l[2]), put(l[3]), put(l[4]), put(l[5])})
			run(t, seqs.New(), start(0, 64), []call{put(l[:2]...), put(l[2:]...)})
		})
	}
}

// P7.1 (Q1: Put): one range that touches, or swallows, many, from none to all of them.
func TestJoins(t *testing.T) {
	many := []api.Range{to(2, 3), one(5), to(8, 9), one(12), to(15, 19)}
	for _, r := range within(0, 22) {
		run(t, seqs.New(), start(0, 22), []call{put(many...), put(r)})
		run(t, seqs.New(), start(0, 22), []call{put(r), put(many...)})
	}
	steps(t,
		gives(put(many...), many...),
		gives(put(to(6, 7)), to(2, 3), to(5, 9), one(12), to(15, 19)),
		gives(put(one(4)), to(2, 9), one(12), to(15, 19)),
		gives(put(to(0, greatest-1)), to(0, greatest-1)),
	)
}

// wrong are ranges that may not be put.
func wrong() []api.Range {
	return []api.Range{
		to(1, 0), to(6, 5), to(9, 2), to(greatest-1, greatest-2), to(greatest-1, 0), // the first above the last
		to(greatest, 0), to(greatest, greatest-1), // from the greatest number
		to(0, greatest), to(5, greatest), to(greatest-1, greatest), one(greatest), // up to it
	}
}

// P7.1 (Q1: Put) and DOC.md, rule 3: a wrong range is ErrArg, alone and among others, and the set is as it was.
func TestWrong(t *testing.T) {
	right := []api.Range{one(0), to(3, 8), to(20, 21), one(greatest - 1), to(3, 8)}
	for _, r := range wrong() {
		steps(t, fails(put(r), api.ErrArg))
		steps(t, fails(put(r, r), api.ErrArg))
		for at := range len(right) + 1 {
			l := slices.Insert(slices.Clone(right), at, r)
			steps(t,
				fails(put(l...), api.ErrArg),
				gives(put(to(4, 6), one(10)), to(4, 6), one(10)),
				fails(put(r), api.ErrArg, to(4, 6), one(10)),
				fails(put(l...), api.ErrArg, to(4, 6), one(10)),
				gives(put(right...), one(0), to(3, 8), one(10), to(20, 21), one(greatest-1)),
				fails(put(l...), api.ErrArg, one(0), to(3, 8), one(10), to(20, 21), one(greatest-1)),
				gives(cut(greatest)),
				fails(put(l...), api.ErrArg),
			)
		}
	}
}

// P7.1 (Q1: Has): at each end of a range, beside it, and in a gap.
func TestHas(t *testing.T) {
	s := seqs.New()
	s.Put(to(3, 5), one(7), to(20, 29), to(greatest-4, greatest-1))
	for n, want := range map[uint64]bool{
		0: false, 2: false, 3: true, 4: true, 5: true, 6: false, 7: true, 8: false, 13: false, 19: false, 20: true, 25: true, 29: true, 30: false,
		1 << 63: false, greatest - 5: false, greatest - 4: true, greatest - 1: true, greatest: false,
	} {
		if got := s.Has(n); got != want {
			t.Errorf("Has(%d) is %v", n, got)
		}
	}
}

// P7.1 (Q1: Cut): below all, at a range's first number, in it, at its last one, behind it, in a gap, and above all.
func TestCut(t *testing.T) {
	all := []api.Range{to(3, 5), one(7), to(20, 29)}
	for n, want := range map[uint64][]api.Range{
		0: all, 2: all, 3: all,
		4: {to(4, 5), one(7), to(20, 29)}, 5: {one(5), one(7), to(20, 29)},
		6: {one(7), to(20, 29)}, 7: {one(7), to(20, 29)},
		8: {to(20, 29)}, 13: {to(20, 29)}, 19: {to(20, 29)}, 20: {to(20, 29)},
		21: {to(21, 29)}, 28: {to(28, 29)}, 29: {one(29)},
		30: nil, 31: nil, 1 << 63: nil, greatest - 1: nil, greatest: nil,
	} {
		steps(t,
			gives(put(all...), all...),
			gives(cut(n), want...),
			gives(cut(n), want...),
			gives(cut(0), want...),
			gives(put(all...), all...), // they may be put again
		)
	}
	steps(t,
		gives(put(to(0, greatest-1)), to(0, greatest-1)),
		gives(cut(1), to(1, greatest-1)),
		gives(cut(1<<63), to(1<<63, greatest-1)),
		gives(put(to(5, 6)), to(5, 6), to(1<<63, greatest-1)),
		gives(cut(greatest-1), one(greatest-1)),
		gives(cut(greatest)),
	)
}

// P7.1 (Q1: Gap): in a range, ahead of one, in a gap, behind all, and at the greatest number.
func TestGap(t *testing.T) {
	s := seqs.New()
	s.Put(to(3, 5), one(7), to(20, 29), to(greatest-4, greatest-1))
	for n, want := range map[uint64]uint64{
		0: 0, 2: 2, 3: 6, 4: 6, 5: 6, 6: 6, 7: 8, 8: 8, 13: 13, 19: 19, 20: 30, 25: 30, 29: 30, 30: 30,
		1 << 63: 1 << 63, greatest - 5: greatest - 5, greatest - 4: greatest, greatest - 1: greatest, greatest: greatest,
	} {
		if got := s.Gap(n); got != want {
			t.Errorf("Gap(%d) is %d, not %d", n, got, want)
		}
	}
	s.Cut(30)
	for _, n := range []uint64{0, 3, 25, 30, greatest - 5} {
		if got := s.Gap(n); got != n {
			t.Errorf("behind Cut, Gap(%d) is %d", n, got)
		}
	}
	s.Put(to(0, greatest-5))
	for _, n := range []uint64{0, 3, 1 << 63, greatest} {
		if got := s.Gap(n); got != greatest {
			t.Errorf("of all numbers, Gap(%d) is %d", n, got)
		}
	}
}

// some are calls with all that the first or the last few numbers allow: each range of n of them, and a wrong one; each cut, from below the first one to above the last.
func some(lowest uint64, n int) []call {
	l := []call{put(), put(to(lowest+2, lowest+1)), cut(0), cut(greatest)}
	for _, r := range within(lowest, n) {
		l = append(l, put(r))
	}
	for i := range n + 1 {
		l = append(l, cut(lowest+uint64(i)))
	}
	return l
}

// P7.1: all rows of three calls of all sorts, with the first numbers, and with the last ones.
func TestCalls(t *testing.T) {
	for _, p := range ends(5) {
		rows(3, some(p.lowest, 5), func(l []call) { run(t, seqs.New(), start(p.lowest, 5), l) })
	}
	for _, p := range ends(3) {
		rows(4, some(p.lowest, 3), func(l []call) { run(t, seqs.New(), start(p.lowest, 3), l) })
	}
}

// P7.1: all pairs of ranges, at once, behind all pairs of others, with the first numbers and with the last ones.
func TestPairs(t *testing.T) {
	for _, p := range ends(4) {
		var pairs []call
		for _, a := range within(p.lowest, 4) {
			for _, b := range within(p.lowest, 4) {
				pairs = append(pairs, put(a, b))
			}
		}
		rows(2, pairs, func(l []call) { run(t, seqs.New(), start(p.lowest, 4), l) })
	}
}

// P7.2: ranges rise, and between two of them is a number that is not in the set, behind each of all rows of calls.
func TestApart(t *testing.T) {
	for _, p := range ends(6) {
		low := p.lowest
		of := []call{cut(low + 3), put(to(greatest, greatest-1)), put(to(low+2, low+3), one(low))}
		for i := range uint64(6) {
			of = append(of, put(one(low+i)))
		}
		rows(4, of, func(l []call) {
			s := seqs.New()
			for i, c := range l {
				c.do(s)
				all := s.All()
				if !apart(all) {
					t.Fatalf("behind %v: %v", l[:i+1], all)
				}
				for _, r := range all[min(1, len(all)):] {
					if s.Has(r.From - 1) {
						t.Fatalf("behind %v: %v, and %d is in it", l[:i+1], all, r.From-1)
					}
				}
			}
		})
	}
}

// dice are numbers, the same ones each time.
type dice uint64

// roll is one below of.
func (d *dice) roll(of uint64) uint64 {
	*d = *d*6364136223846793005 + 1442695040888963407
	return uint64(*d) >> 33 % of
}

// many is n calls of all sorts with so many numbers, the lowest one ahead; ranges go on for up to so many, and one call of so many is a cut. Few cuts are far above the lowest numbers.
func many(n int, lowest, numbers, long, cuts uint64) []call {
	var l []call
	d := dice(1)
	for range n {
		if d.roll(cuts) == 0 {
			l = append(l, cut(lowest+d.roll(1+d.roll(1+d.roll(numbers)))))
			continue
		}
		some := make([]api.Range, d.roll(5))
		for i := range some {
			from := d.roll(numbers)
			some[i] = to(lowest+from, lowest+min(numbers-1, from+d.roll(long)))
		}
		if d.roll(20) == 0 {
			some = append(some, to(lowest+d.roll(numbers)+1, lowest))
		}
		l = append(l, put(some...))
	}
	return l
}

// P7.1 and P7.2: long runs, with few ranges and with many hundreds of them.
func TestLong(t *testing.T) {
	for _, numbers := range []int{10, 100, 1000, 4000} {
		for _, long := range []uint64{1, 3, 40, 400} {
			for _, cuts := range []uint64{2, 10, 1000} {
				for _, p := range ends(numbers) {
					run(t, seqs.New(), p, many(300, p.lowest, uint64(numbers), long, cuts))
				}
			}
		}
	}
}

// alone is n ranges of one number, with one number between two of them: 1, 3, 5 and so on.
func alone(n int) []api.Range {
	l := make([]api.Range, n)
	for i := range l {
		l[i] = one(2*uint64(i) + 1)
	}
	return l
}

// mixed is a list, in an order that is neither rising nor falling, the same one each time.
func mixed(l []api.Range) []api.Range {
	l = slices.Clone(l)
	d := dice(2)
	for i := range l {
		j := i + int(d.roll(uint64(len(l)-i)))
		l[i], l[j] = l[j], l[i]
	}
	return l
}

// falling is a list from behind.
func falling(l []api.Range) []api.Range {
	l = slices.Clone(l)
	slices.Reverse(l)
	return l
}

// P7.1 and P7.2: from one to some hundreds of ranges that are apart, one by one, in three orders; then one of each gap's numbers, in three orders, till one range is left.
func TestGapsFill(t *testing.T) {
	for _, n := range []int{1, 2, 31, 32, 33, 63, 64, 65, 66, 96, 97, 128, 129, 300} {
		l := alone(n)
		for _, order := range [][]api.Range{l, falling(l), mixed(l)} {
			s, p := seqs.New(), start(0, 2*n+1)
			for _, r := range order {
				run(t, s, p, []call{put(r)})
			}
			for _, r := range order {
				run(t, s, p, []call{put(one(r.From - 1))})
			}
			hold(t, s, []api.Range{to(0, 2*uint64(n)-1)})
		}
	}
}

// P7.1 (Q1: Put, Cut): ranges that swallow some of many hundreds, of any length, anywhere; and cuts at all numbers.
func TestSwallows(t *testing.T) {
	const n = 400
	l := alone(n)
	for from := uint64(0); from < 2*n; from += 23 {
		for last := from; last < 2*n; last += 61 {
			run(t, seqs.New(), start(0, 2*n), []call{put(l...), put(to(from, last)), put(one(from), one(last)), cut(from + 9)})
		}
	}
	s, p := seqs.New(), start(0, 2*n)
	run(t, s, p, []call{put(l...)})
	for i := range uint64(2*n + 1) {
		run(t, s, p, []call{cut(i)})
	}
}

// P7.1: a million ranges at once, in any order; they are cut, put once more, and swallowed. Each is told by All, some by Has and Gap.
func TestMillionAtOnce(t *testing.T) {
	const n = 1000000
	l := alone(n)
	for _, order := range [][]api.Range{l, falling(l), mixed(l)} {
		s := seqs.New()
		holdSome := func(from int) {
			t.Helper()
			if !slices.Equal(s.All(), l[from:]) {
				t.Fatal("All tells other ranges")
			}
			for i := from; i < n; i += 97 {
				tells(t, s, l[i].From, true, l[i].From+1)
				tells(t, s, l[i].From+1, false, l[i].From+1)
			}
		}
		s.Put(order...)
		holdSome(0)
		s.Cut(n)
		holdSome(n / 2)
		s.Put(order...)
		holdSome(0)
		s.Put(to(2, 2*n-2))
		hold(t, s, []api.Range{to(1, 2*n-1)})
	}
}

// P7.1: a hundred thousand ranges one by one, in any order, and one by one cut; as many that touch.
func TestOneByOne(t *testing.T) {
	const n = 100000
	l := alone(n)
	for _, order := range [][]api.Range{l, falling(l), mixed(l)} {
		s, touching := seqs.New(), seqs.New()
		for _, r := range order {
			s.Put(r)
			touching.Put(to(r.From-1, r.From))
		}
		hold(t, s, l)
		hold(t, touching, []api.Range{to(0, 2*n-1)})
		for i, r := range l {
			tells(t, s, r.From, true, r.From+1)
			s.Cut(r.From + 1)
			tells(t, s, r.From, false, r.From)
			if i%(n/10) == 0 {
				hold(t, s, l[i+1:])
			}
		}
		hold(t, s, nil)
	}
}

// P7.1 and DOC.md, rule 4: the list that is handed in is not written into, and what lies behind its length is neither read nor written, whether or not it may be put.
func TestListStays(t *testing.T) {
	l := []api.Range{to(9, 12), one(3), to(4, 5), to(8, 10), one(0), to(7, 6), one(greatest)}
	was := slices.Clone(l)
	for from := range l {
		for upto := from; upto <= len(l); upto++ {
			for _, ahead := range []call{put(), put(to(2, 3))} {
				s, p := seqs.New(), start(0, 20)
				run(t, s, p, []call{ahead})
				want := p.do(put(l[from:upto]...))
				if err := s.Put(l[from:upto]...); err != want {
					t.Errorf("%v: error %d, not %d", l[from:upto], err, want)
				}
				hold(t, s, p.all())
				s.Put(one(11), one(1))
				s.Cut(2)
			}
			if !slices.Equal(l, was) {
				t.Fatalf("%v: the list is %v then", was[from:upto], l)
			}
		}
	}
}

// P7.1 and DOC.md, rule 4: the list that is handed in is not kept: what is written into it later changes nothing.
func TestListIsNotKept(t *testing.T) {
	for n := range 200 {
		all := alone(n)
		for _, ahead := range []bool{false, true} {
			s, want := seqs.New(), all
			if ahead {
				s.Put(one(1000))
				want = slices.Concat(all, []api.Range{one(1000)})
			}
			l := slices.Clone(all)
			s.Put(l...)
			for i := range l {
				l[i] = to(2, 900)
			}
			hold(t, s, want)
		}
	}
}

// P7.1 and DOC.md, rule 4: what All tells shares nothing with the set, nor with what All tells again, be it written into or longer then.
func TestAllIsNew(t *testing.T) {
	for _, n := range []int{1, 2, 3, 64, 65, 200} {
		want := alone(n)
		s := seqs.New()
		s.Put(want...)
		first, other := s.All(), s.All()
		for i := range first {
			first[i] = to(5, 900)
		}
		_ = append(first, one(1000))
		if !slices.Equal(other, want) {
			t.Errorf("what was told is %v then, not %v", other, want)
		}
		hold(t, s, want)
		s.Put(to(0, 2*uint64(n)))
		s.Cut(1)
		if !slices.Equal(other, want) {
			t.Errorf("behind Put and Cut what was told is %v, not %v", other, want)
		}
		hold(t, s, []api.Range{to(1, 2*uint64(n))})
	}
}

// P2: two sets beside one another, each told by its own calls alone, with a third one begun between.
func TestBeside(t *testing.T) {
	of := []call{put(), put(one(1)), put(to(0, 2), one(4)), put(one(3)), put(to(2, 1)), cut(1), cut(3)}
	rows(4, of, func(l []call) {
		first, other := seqs.New(), seqs.New()
		if first == other {
			t.Fatal("two sets are one")
		}
		p, q := start(0, 5), start(0, 5)
		for i := range l {
			run(t, first, p, l[i:i+1])
			hold(t, seqs.New(), nil)
			run(t, other, q, l[len(l)-1-i:len(l)-i])
			hold(t, first, p.all())
		}
	})
}

// P2: a set hangs not on how often it is looked at: it tells the same if it never was, and again and again.
func TestLooking(t *testing.T) {
	of := []call{put(one(1)), put(to(0, 2), one(4)), put(one(3)), put(to(2, 1)), cut(1), cut(3)}
	rows(5, of, func(l []call) {
		s, p := seqs.New(), start(0, 5)
		for _, c := range l {
			c.do(s)
			p.do(c)
		}
		for range 3 {
			hold(t, s, p.all())
		}
	})
}

// P7.1 (Q1), P1 and DOC.md, rule 8: a nil set, at every call.
func TestNil(t *testing.T) {
	var s *seqs.Set
	l := []api.Range{to(3, 5), one(1)}
	for _, c := range []call{put(), put(one(0)), put(l...), put(wrong()...), put(to(0, greatest-1))} {
		if err := c.do(s); err != api.ErrArg {
			t.Errorf("nil, %v: error %d", c, err)
		}
		hold(t, s, nil)
	}
	for _, n := range []uint64{0, 1, 4, 1 << 63, greatest - 1, greatest} {
		s.Cut(n)
		tells(t, s, n, false, n)
		hold(t, s, nil)
	}
	if s != nil || !slices.Equal(l, []api.Range{to(3, 5), one(1)}) {
		t.Errorf("nil: the set is %v, the list %v then", s, l)
	}
	hold(t, seqs.New(), nil)
}
