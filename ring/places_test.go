package ring

import "testing"

// tidy holds what a row keeps: no more than four places an item, and nothing in those where no item lies.
func tidy(t *testing.T, r *Ring[int]) {
	t.Helper()
	if n := len(r.places); n >= 4*max(1, r.count) && n > 0 {
		t.Fatalf("%d items keep %d places", r.count, n)
	}
	kept := 0
	for _, x := range r.places {
		if x != 0 {
			kept++
		}
	}
	if kept != r.count {
		t.Fatalf("%d items, and %d are kept", r.count, kept)
	}
}

// LANGUAGE.md, rule 8: what was taken away is not kept, nor are the places that it lay in.
func TestPlaces(t *testing.T) {
	for n := range 100 {
		r := New[int]()
		for i := range n {
			r.Push(i + 1)
			tidy(t, r)
		}
		for i := range n {
			r.Shift()
			r.Push(i + 1)
			tidy(t, r)
		}
		for i := range n {
			if i%3 == 0 {
				r.Pop()
			} else {
				r.Shift()
			}
			tidy(t, r)
			tidy(t, r.Clone())
		}
		r.Push(1)
		tidy(t, r)
	}
	for n := range 100 {
		r := New[int]()
		for i := range n {
			r.Push(i + 1)
		}
		listed := New(r.All()...)
		tidy(t, listed)
		for range n {
			listed.Pop()
			tidy(t, listed)
		}
	}
}

// A row does not move its items at each call, whatever its length, when it is put to and taken from by turns.
func TestTurns(t *testing.T) {
	for n := range 300 {
		r := New[int]()
		for i := range n {
			r.Push(i + 1)
		}
		turns := func() {
			r.Push(1)
			r.Shift()
			r.Push(1)
			r.Pop()
		}
		if moves := testing.AllocsPerRun(10, turns); moves != 0 {
			t.Fatalf("%d items, and %v moves", n, moves)
		}
	}
}
