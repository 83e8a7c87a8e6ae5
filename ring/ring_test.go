package ring_test

import (
	"fmt"
	"math"
	"reflect"
	"slices"
	"testing"

	"goit/api"
	"goit/ring"
)

// count is the items from one number up to, not with, another.
func count(from, to int) []int {
	var l []int
	for x := from; x < to; x++ {
		l = append(l, x)
	}
	return l
}

// hold looks at a row by all calls that leave it as it is, at all places, at those beside them and at those far off.
func hold[T any](t *testing.T, r *ring.Ring[T], want []T) {
	t.Helper()
	if got := r.Len(); got != len(want) {
		t.Fatalf("Len: %d, not %d", got, len(want))
	}
	all := r.All()
	if len(all) != len(want) {
		t.Fatalf("All: %v, not %v", all, want)
	}
	for i := range want {
		if !reflect.DeepEqual(all[i], want[i]) {
			t.Fatalf("All: %v, not %v", all, want)
		}
		if x, ok := r.At(i); !reflect.DeepEqual(x, want[i]) || !ok {
			t.Fatalf("At(%d): %v %t, of %v", i, x, ok, want)
		}
	}
	for _, i := range []int{-1, -2, -len(want), -len(want) - 1, math.MinInt, math.MinInt + 1, len(want), len(want) + 1, 2 * len(want), 4*len(want) + 1, math.MaxInt - 1, math.MaxInt} {
		if i >= 0 && i < len(want) {
			continue
		}
		x, ok := r.At(i)
		nothing(t, fmt.Sprintf("At(%d) of %d items", i, len(want)), x, ok)
	}
}

// nothing holds that there is none: the zero value, and false.
func nothing[T any](t *testing.T, call string, x T, ok bool) {
	t.Helper()
	if ok || !reflect.ValueOf(&x).Elem().IsZero() {
		t.Fatalf("%s: %v %t, not nothing", call, x, ok)
	}
}

// gives holds what a call that takes an item away answers.
func gives[T any](t *testing.T, call string, take func() (T, bool), want T) {
	t.Helper()
	if x, ok := take(); !reflect.DeepEqual(x, want) || !ok {
		t.Fatalf("%s: %v %t, not %v", call, x, ok, want)
	}
}

// bare holds that a row has no items: it answers so, and taking away leaves it as it is.
func bare[T any](t *testing.T, r *ring.Ring[T]) {
	t.Helper()
	hold(t, r, nil)
	for range 2 {
		x, ok := r.Shift()
		nothing(t, "Shift", x, ok)
		hold(t, r, nil)
		x, ok = r.Pop()
		nothing(t, "Pop", x, ok)
		hold(t, r, nil)
	}
}

// P4.1 (R1: New, Len, At, All): rows of no items, of one, and of many.
func TestNew(t *testing.T) {
	bare(t, ring.New[int]())
	bare(t, ring.New([]int{}...))
	bare(t, ring.New([]int(nil)...))
	hold(t, ring.New(7), []int{7})
	hold(t, ring.New(0), []int{0})
	hold(t, ring.New(1, 2, 3), []int{1, 2, 3})
	hold(t, ring.New(3, 1, 3, 3), []int{3, 1, 3, 3})
	hold(t, ring.New(count(0, 1000)...), count(0, 1000))
	if r := ring.New[int](); r == nil {
		t.Error("a row of no items is nil")
	}
}

// P4.1 (R1: Push): one more is the last, on rows of all lengths.
func TestPush(t *testing.T) {
	for n := range 20 {
		r := ring.New(count(0, n)...)
		for x := n; x < n+50; x++ {
			r.Push(x)
			hold(t, r, count(0, x+1))
		}
	}
}

// P4.1 (R1: Shift, Pop): from one end alone, till the row has none, and put again.
func TestOneEnd(t *testing.T) {
	for n := range 70 {
		first, last := ring.New(count(0, n)...), ring.New[int]()
		for x := range n {
			last.Push(x)
		}
		for range 3 {
			for x := range n {
				gives(t, "Shift", first.Shift, x)
				hold(t, first, count(x+1, n))
				gives(t, "Pop", last.Pop, n-1-x)
				hold(t, last, count(0, n-1-x))
			}
			bare(t, first)
			bare(t, last)
			for x := range n {
				first.Push(x)
				last.Push(x)
			}
			hold(t, first, count(0, n))
			hold(t, last, count(0, n))
		}
	}
}

// P4.1 (R1: Push, Shift, Pop): by turns from both ends, till the row has none, and put again.
func TestBothEnds(t *testing.T) {
	r := ring.New(1, 2, 3, 4)
	gives(t, "Shift", r.Shift, 1)
	hold(t, r, []int{2, 3, 4})
	gives(t, "Pop", r.Pop, 4)
	hold(t, r, []int{2, 3})
	r.Push(5)
	hold(t, r, []int{2, 3, 5})
	r.Push(6)
	hold(t, r, []int{2, 3, 5, 6})
	gives(t, "Shift", r.Shift, 2)
	gives(t, "Shift", r.Shift, 3)
	hold(t, r, []int{5, 6})
	r.Push(7)
	r.Push(8)
	r.Push(9)
	hold(t, r, []int{5, 6, 7, 8, 9})
	gives(t, "Pop", r.Pop, 9)
	gives(t, "Shift", r.Shift, 5)
	gives(t, "Pop", r.Pop, 8)
	gives(t, "Shift", r.Shift, 6)
	hold(t, r, []int{7})
	gives(t, "Pop", r.Pop, 7)
	bare(t, r)
	r.Push(10)
	hold(t, r, []int{10})
	gives(t, "Shift", r.Shift, 10)
	bare(t, r)
	r.Push(11)
	r.Push(12)
	hold(t, r, []int{11, 12})
}

// call is one that changes a row.
type call int

const (
	push call = iota
	shift
	pop
)

func (c call) String() string { return [...]string{"Push", "Shift", "Pop"}[c] }

// do makes a call on a row, with x to be put, holds its answer against the items that the row should have, and tells those that it should have then.
func (c call) do(t *testing.T, r *ring.Ring[int], items []int, x int) []int {
	t.Helper()
	if c == push {
		r.Push(x)
		return append(slices.Clone(items), x)
	}
	take, at := r.Shift, 0
	if c == pop {
		take, at = r.Pop, len(items)-1
	}
	if len(items) == 0 {
		got, ok := take()
		nothing(t, c.String(), got, ok)
		return nil
	}
	gives(t, c.String(), take, items[at])
	if c == shift {
		return items[1:]
	}
	return items[:at]
}

// rows calls f with all rows of n calls.
func rows(n int, f func(l []call)) {
	l := make([]call, n)
	var fill func(i int)
	fill = func(i int) {
		if i == n {
			f(l)
			return
		}
		for _, c := range []call{push, shift, pop} {
			l[i] = c
			fill(i + 1)
		}
	}
	fill(0)
}

// P4.1: all rows of up to eight calls, on rows of up to five items.
func TestCalls(t *testing.T) {
	for n := range 6 {
		for long := range 9 {
			rows(long, func(l []call) {
				defer func() {
					if t.Failed() {
						t.Logf("%d items, %v", n, l)
					}
				}()
				r, items := ring.New(count(0, n)...), count(0, n)
				for i, c := range l {
					items = c.do(t, r, items, n+i)
				}
				hold(t, r, items)
			})
		}
	}
}

// P4.1: long runs, in which a row becomes longer and shorter, by calls in many orders.
func TestLong(t *testing.T) {
	for _, turn := range [][]call{
		{push, push, shift},
		{push, push, pop},
		{push, push, push, shift, pop},
		{push, push, push, pop, shift},
		{push, shift, push, push, pop, push},
	} {
		r, items := ring.New[int](), []int(nil)
		for i := range 400 {
			items = turn[i%len(turn)].do(t, r, items, i)
			hold(t, r, items)
		}
		for i := 0; len(items) > 0; i++ {
			items = []call{shift, shift, pop, push, shift}[i%5].do(t, r, items, -i)
			hold(t, r, items)
		}
		bare(t, r)
	}
}

// P4.1: a million items go in at one end and out at either, and others later.
func TestMillion(t *testing.T) {
	const n = 1000000
	r := ring.New[int]()
	for range 2 {
		for x := range n {
			r.Push(x)
		}
		if !slices.Equal(r.All(), count(0, n)) {
			t.Fatal("All: not what was put")
		}
		for x := range n / 2 {
			gives(t, "Shift", r.Shift, x)
			gives(t, "Pop", r.Pop, n-1-x)
		}
		bare(t, r)
	}
	for x := range n {
		r.Push(x)
		gives(t, "Shift", r.Shift, x)
	}
	bare(t, r)
}

// P4.1 (R1: Clone): another row, with the same, whatever was called ahead; then either one changes alone.
func TestClone(t *testing.T) {
	for n := range 5 {
		rows(5, func(l []call) {
			r, items := ring.New(count(0, n)...), count(0, n)
			for i, c := range l {
				items = c.do(t, r, items, n+i)
			}
			rows(2, func(more []call) {
				changed, other := r.Clone(), r.Clone()
				if changed == r || changed == other {
					t.Fatalf("%d items, %v: Clone is no other row", n, l)
				}
				hold(t, changed, items)
				then := items
				for i, c := range more {
					then = c.do(t, changed, then, 100+i)
				}
				hold(t, changed, then)
				hold(t, r, items)
				hold(t, other, items)
				for i := range 20 {
					other.Push(200 + i)
				}
				hold(t, changed, then)
				hold(t, r, items)
				hold(t, other, append(slices.Clone(items), count(200, 220)...))
			})
		})
	}
}

// P4.1 (R1: Clone): the first row changes, and those cloned from it, and from these, do not.
func TestCloneStays(t *testing.T) {
	for n := range 40 {
		r := ring.New(count(0, n)...)
		other := r.Clone()
		third := other.Clone()
		for x := range 100 {
			r.Push(1000 + x)
			r.Shift()
		}
		hold(t, other, count(0, n))
		for range n {
			other.Pop()
		}
		bare(t, other)
		hold(t, third, count(0, n))
		for x := range 3 {
			other.Push(-x)
		}
		hold(t, third, count(0, n))
		hold(t, other, []int{0, -1, -2})
		hold(t, r, count(1100-n, 1100))
	}
}

// P4.1, and DOC.md, rule 4: a row keeps no list that it is given; nor does it write into one, or look behind its length.
func TestListGiven(t *testing.T) {
	l := []int{1, 2, 3, 4, 5}
	r := ring.New(l[:3]...)
	hold(t, r, []int{1, 2, 3})
	r.Push(6)
	r.Shift()
	r.Pop()
	r.Pop()
	r.Push(7)
	if !slices.Equal(l, []int{1, 2, 3, 4, 5}) {
		t.Errorf("what was handed in was written into: %d", l)
	}
	hold(t, r, []int{2, 7})
	first, second := ring.New(l...), ring.New(l...)
	for i := range l {
		l[i] = -1
	}
	hold(t, r, []int{2, 7})
	hold(t, first, []int{1, 2, 3, 4, 5})
	first.Pop()
	first.Push(8)
	hold(t, first, []int{1, 2, 3, 4, 8})
	hold(t, second, []int{1, 2, 3, 4, 5})
}

// P4.1, and DOC.md, rule 4: what All tells is new memory, behind its length too; the row does not change with it, nor it with the row.
func TestListTold(t *testing.T) {
	for n := range 10 {
		for shifted := range n + 1 {
			r := ring.New(count(-shifted, n-shifted)...)
			for x := range shifted {
				r.Shift()
				r.Push(n - shifted + x)
			}
			want := count(0, n)
			told, again := r.All(), r.All()
			for i := range told {
				told[i] = -100
			}
			hold(t, r, want)
			if len(again) != n || n > 0 && !slices.Equal(again, want) {
				t.Fatalf("two lists of All share memory: %v, not %v", again, want)
			}
			behind := again[:cap(again)]
			for i := range behind {
				behind[i] = -200
			}
			hold(t, r, want)
			r.Push(n)
			hold(t, r, count(0, n+1))
			kept := r.All()
			r.Shift()
			r.Push(-300)
			r.Pop()
			r.Pop()
			r.Push(-400)
			if !slices.Equal(kept, count(0, n+1)) {
				t.Fatalf("what All told changed with its row: %v, not %v", kept, count(0, n+1))
			}
		}
	}
}

// unmade holds that a nil row answers 0, false and nothing at every call.
func unmade[T any](t *testing.T, x T) {
	t.Helper()
	var r *ring.Ring[T]
	for range 2 {
		bare(t, r)
		if l := r.All(); len(l) != 0 {
			t.Errorf("All of nil: %v", l)
		}
		if c := r.Clone(); c != nil {
			t.Errorf("Clone of nil: %v", c)
		}
		bare(t, r.Clone())
		r.Push(x)
	}
}

// P4.1 (R1), P1 and DOC.md, rule 8: a nil row.
func TestNil(t *testing.T) {
	unmade(t, 7)
	unmade(t, "seven")
	unmade(t, []int{7})
	unmade[any](t, 7)
	unmade(t, api.Packet{N: 7})
	unmade(t, struct{}{})
	unmade(t, ring.New(7))
}

// serves holds a row of any type against R1: new, put, taken from both ends, and cloned.
func serves[T any](t *testing.T, l ...T) {
	t.Helper()
	r := ring.New(l...)
	hold(t, r, l)
	r = ring.New[T]()
	bare(t, r)
	for i, x := range l {
		r.Push(x)
		hold(t, r, l[:i+1])
	}
	other := r.Clone()
	for i, x := range l {
		gives(t, "Shift", r.Shift, x)
		r.Push(x)
		hold(t, r, append(slices.Clone(l[i+1:]), l[:i+1]...))
	}
	for i := len(l) - 1; i >= 0; i-- {
		gives(t, "Pop", r.Pop, l[i])
		hold(t, r, l[:i])
	}
	bare(t, r)
	hold(t, other, l)
}

// P4.1: items of many types; the zero value is an item as any other.
func TestTypes(t *testing.T) {
	serves(t, 1, -2, 3, 0, math.MaxInt, math.MinInt)
	serves[uint64](t, 1, math.MaxUint64, 0, 4, 5)
	serves[byte](t, 1, 255, 0)
	serves(t, "a", "", "\x00\xff", "long enough")
	serves(t, true, false, true)
	serves(t, 0.5, math.Inf(-1), 0)
	serves(t, [2]int{1, 2}, [2]int{}, [2]int{3, 4})
	serves(t, []int{1}, nil, []int{2, 3})
	serves(t, map[int]int{1: 2}, nil)
	serves(t, struct{}{}, struct{}{}, struct{}{})
	serves[any](t, 1, "two", nil, 3.5, []int{4})
	serves[error](t, nil, nil)
	serves(t, api.Packet{N: 1, Size: 2, Stamp: api.Stamp{Sent: 3, Limited: true}}, api.Packet{}, api.Packet{N: 4})
	serves(t, api.Range{From: 1, To: 2}, api.Range{From: 3, To: 4})
	serves(t, ring.New(1, 2), nil, ring.New[int]())
	serves(t, ring.New("x"), ring.New("y", "z"))
}

// P4.1: an item that points somewhere is told as it was put, not copied, by a clone too.
func TestPointers(t *testing.T) {
	a, b := new(int), new(int)
	r := ring.New(a)
	r.Push(b)
	other := r.Clone()
	for i, want := range []*int{a, b} {
		if x, ok := r.At(i); x != want || !ok {
			t.Errorf("At(%d): not what was put", i)
		}
		if x, ok := other.Shift(); x != want || !ok {
			t.Error("Shift of a clone: not what was put")
		}
	}
}

// P2: a row hangs on its own calls alone, not on another row's, and not on how often it is looked at.
func TestOwnCallsAlone(t *testing.T) {
	rows(6, func(l []call) {
		r, other := ring.New(1, 2), ring.New(3)
		items, others := []int{1, 2}, []int{3}
		for i, c := range l {
			others = l[len(l)-1-i].do(t, other, others, 20+i)
			r.All()
			r.Len()
			r.At(i)
			r.Clone()
			items = c.do(t, r, items, 10+i)
		}
		hold(t, r, items)
		hold(t, other, others)
	})
	bare(t, ring.New[int]())
}
