package queue_test

import (
	"slices"
	"testing"

	"goit/api"
	"goit/queue"
)

// account is what a queue is known by from outside: its room, what was put and not dropped, what was dropped, and what was taken.
type account struct {
	room               uint64
	put, behind, taken []api.Packet
}

// note is what the n-th call, and its answer, make of it.
func (a *account) note(n int, c call, got answer) {
	switch {
	case c.name == "Shift" && got.ok:
		a.taken = append(a.taken, got.packet)
	case c.name == "Put" && got.ok:
		a.put = append(a.put, parcel(n, c.size))
	case c.name == "Put":
		a.behind = append(a.behind, parcel(n, c.size))
	}
}

// kept tells whether what was taken, and what is there behind that, is what was put and not dropped, in order; whether no more bytes are there than there is room; and whether all else was dropped.
func (a *account) kept(then told) bool {
	in := sum(then.all...)
	return slices.Equal(slices.Concat(a.taken, then.all), a.put) &&
		in.Cmp(large(a.room)) <= 0 && in.Cmp(large(then.bytes)) == 0 &&
		then.dropped == uint64(len(a.behind)) && then.lost == bounded(sum(a.behind...))
}

// ordered holds a queue, behind each of some calls, against its account, and then takes all that is there.
func ordered(t *testing.T, room uint64, l []call) {
	t.Helper()
	q, a := queue.New(room), &account{room: room}
	for i, c := range l {
		a.note(i, c, c.do(i, q))
		if then := look(q); !a.kept(then) {
			t.Fatalf("room %d, behind %v: %v, with %v put, %v taken", room, l[max(0, i-9):i+1], then, a.put, a.taken)
		}
	}
	for range q.All() {
		a.note(0, shift(), shift().do(0, q))
	}
	if then := look(q); !a.kept(then) || !slices.Equal(a.taken, a.put) || then.head.ok {
		t.Fatalf("room %d, behind %v, and all taken: %v, with %v put, %v taken", room, l, then, a.put, a.taken)
	}
}

// P19.2: what is taken is what was put, and not dropped, in order; no more bytes are in it than it has room: in any row of puts and takes.
func TestInOrder(t *testing.T) {
	for _, room := range rooms() {
		rows(4, edges(), func(l []call) { ordered(t, room, l) })
	}
	few := []call{put(1), put(2), put(4), shift()}
	for _, room := range []uint64{1, 4, 6} {
		rows(7, few, func(l []call) { ordered(t, room, l) })
	}
	for i, s := range scales() {
		for n := range 40 {
			room, l := mixed(150, mixer(50000+1000*i+n), s)
			ordered(t, room, l)
		}
	}
}

// P19.2: one who puts packets faster than they are taken loses some, and never has more bytes there than there is room; one who takes as many loses none.
func TestFasterThanTaken(t *testing.T) {
	for _, x := range []struct {
		room, size    uint64
		every         int // one is taken for so many that are put
		dropped, left uint64
	}{
		{3000, 1500, 1, 0, 0},
		{1500, 1500, 1, 0, 0},
		{1499, 1500, 1, 1000, 0},
		{3000, 1500, 2, 499, 1},
		{30000, 1500, 2, 481, 19},
		{30000, 1500, 1000, 980, 19},
		{30000, 1501, 1000, 981, 18},
		{0, 0, 2, 0, 500},
	} {
		q, taken := queue.New(x.room), []api.Packet{}
		for i := range 1000 {
			q.Put(parcel(i, x.size))
			if q.Bytes() > x.room || q.Bytes() != x.size*uint64(len(q.All())) {
				t.Fatalf("%v: %d bytes, of %d packets", x, q.Bytes(), len(q.All()))
			}
			if (i+1)%x.every == 0 {
				p, ok := q.Shift()
				if ok {
					taken = append(taken, p)
				}
			}
		}
		n, lost := q.Dropped()
		if left := uint64(len(q.All())); n != x.dropped || lost != n*x.size || left != x.left || n+left+uint64(len(taken)) != 1000 {
			t.Errorf("%v: %d dropped, of %d bytes, %d left, %d taken", x, n, lost, left, len(taken))
		}
		if !slices.IsSortedFunc(taken, func(a, b api.Packet) int { return int(a.N) - int(b.N) }) {
			t.Errorf("%v: out of order", x)
		}
	}
}
