package queue_test

import (
	"slices"
	"testing"

	"goit/api"
	"goit/queue"
)

// step is a call, what it answers, and the numbers that the queue tells then: those of the packets that are in it, their bytes, how many were dropped, and the bytes of these.
type step struct {
	call
	ok                   bool
	in                   []int
	bytes, dropped, lost uint64
}

func puts(size uint64, in []int, bytes, dropped, lost uint64) step {
	return step{put(size), true, in, bytes, dropped, lost}
}

func drops(size uint64, in []int, bytes, dropped, lost uint64) step {
	return step{put(size), false, in, bytes, dropped, lost}
}

func takes(in []int, bytes, dropped, lost uint64) step {
	return step{shift(), true, in, bytes, dropped, lost}
}

func lacks(dropped, lost uint64) step { return step{shift(), false, nil, 0, dropped, lost} }

// none is no packet.
func none() []int { return nil }

// wants is what a queue should tell, if the steps up to one are behind: packets have the numbers of the steps that put them.
func wants(l []step, s step) told {
	w := told{bytes: s.bytes, dropped: s.dropped, lost: s.lost}
	for _, n := range s.in {
		w.all = append(w.all, parcel(n, l[n].size))
	}
	if len(w.all) > 0 {
		w.head = answer{w.all[0], true}
	}
	return w
}

// steps holds a new queue with a room against them, one by one; the same calls are held against a plain one, so that this one is looked at as well.
func steps(t *testing.T, room uint64, l ...step) {
	t.Helper()
	q := queue.New(room)
	if q == nil {
		t.Fatal("a new queue is nil")
	}
	var calls []call
	for i, s := range l {
		head, _ := q.Head()
		got, want := s.do(i, q), answer{ok: s.ok}
		if s.name == "Shift" {
			want.packet = head
		}
		if got != want {
			t.Fatalf("room %d, step %d, %v: %v, not %v", room, i, s.call, got, want)
		}
		if then := look(q); !then.same(wants(l, s)) {
			t.Fatalf("room %d, step %d, %v: %v then, not %v", room, i, s.call, then, wants(l, s))
		}
		calls = append(calls, s.call)
	}
	run(t, room, calls)
}

// P19.1 (V1: New): a queue at first is empty: Head and Shift tell nothing, and false, All tells none; nothing was dropped.
func TestNew(t *testing.T) {
	for _, room := range rooms() {
		q := queue.New(room)
		for range 3 {
			if got := look(q); !got.same(told{}) {
				t.Errorf("room %d: %v", room, got)
			}
			if p, ok := q.Shift(); ok || p != (api.Packet{}) {
				t.Errorf("room %d: Shift tells %v, %v", room, p, ok)
			}
		}
		// it is as good as new behind that
		if size := room - room/2; !q.Put(parcel(1, size)) || q.Bytes() != size {
			t.Errorf("room %d: no room for %d bytes", room, size)
		}
	}
}

// P19.1 (V1: Put): packets up to what is left of the room.
func TestPut(t *testing.T) {
	steps(t, 3000,
		puts(1500, []int{0}, 1500, 0, 0),
		puts(1000, []int{0, 1}, 2500, 0, 0),
		drops(501, []int{0, 1}, 2500, 1, 501),     // one byte more than is left
		puts(499, []int{0, 1, 3}, 2999, 1, 501),   // one fewer
		drops(2, []int{0, 1, 3}, 2999, 2, 503),    // one more
		puts(1, []int{0, 1, 3, 5}, 3000, 2, 503),  // just what is left
		drops(1, []int{0, 1, 3, 5}, 3000, 3, 504), // nothing is left
		puts(0, []int{0, 1, 3, 5, 7}, 3000, 3, 504),
	)
	// just the room, and one byte beside it, at once
	steps(t, 3000, drops(3001, none(), 0, 1, 3001), puts(3000, []int{1}, 3000, 1, 3001), drops(1, []int{1}, 3000, 2, 3002))
	steps(t, 3000, puts(2999, []int{0}, 2999, 0, 0), drops(2, []int{0}, 2999, 1, 2), puts(1, []int{0, 2}, 3000, 1, 2))
	// packets of no bytes need no room, and are packets
	steps(t, 3000, puts(0, []int{0}, 0, 0, 0), puts(0, []int{0, 1}, 0, 0, 0), puts(3000, []int{0, 1, 2}, 3000, 0, 0), puts(0, []int{0, 1, 2, 3}, 3000, 0, 0), takes([]int{1, 2, 3}, 3000, 0, 0), takes([]int{2, 3}, 3000, 0, 0), takes([]int{3}, 0, 0, 0), takes(none(), 0, 0, 0), lacks(0, 0))
}

// P19.1 (V1: Put): a room of 0, and of 1.
func TestLittleRoom(t *testing.T) {
	steps(t, 0,
		drops(1, none(), 0, 1, 1),
		puts(0, []int{1}, 0, 1, 1),
		puts(0, []int{1, 2}, 0, 1, 1),
		drops(1, []int{1, 2}, 0, 2, 2),
		takes([]int{2}, 0, 2, 2),
		drops(7, []int{2}, 0, 3, 9),
		takes(none(), 0, 3, 9),
		drops(greatest-9, none(), 0, 4, greatest),
		lacks(4, greatest),
	)
	steps(t, 1,
		drops(2, none(), 0, 1, 2),
		puts(0, []int{1}, 0, 1, 2),
		puts(1, []int{1, 2}, 1, 1, 2),
		drops(1, []int{1, 2}, 1, 2, 3),
		puts(0, []int{1, 2, 4}, 1, 2, 3),
		takes([]int{2, 4}, 1, 2, 3),
		drops(1, []int{2, 4}, 1, 3, 4),
		takes([]int{4}, 0, 3, 4),
		puts(1, []int{4, 8}, 1, 3, 4),
		takes([]int{8}, 1, 3, 4),
		takes(none(), 0, 3, 4),
		lacks(3, 4),
	)
}

// P19.1 (V1: Put; DOC.md, rule 10): the greatest room, and packets whose bytes together are near the greatest number, or would wrap round.
func TestGreatRoom(t *testing.T) {
	steps(t, greatest,
		puts(greatest, []int{0}, greatest, 0, 0),
		drops(1, []int{0}, greatest, 1, 1),
		puts(0, []int{0, 2}, greatest, 1, 1),
		drops(greatest, []int{0, 2}, greatest, 2, greatest),
		takes([]int{2}, 0, 2, greatest),
		puts(greatest-1, []int{2, 5}, greatest-1, 2, greatest),
		drops(2, []int{2, 5}, greatest-1, 3, greatest),
		puts(1, []int{2, 5, 7}, greatest, 3, greatest),
		drops(1, []int{2, 5, 7}, greatest, 4, greatest),
	)
	steps(t, greatest,
		puts(1<<63, []int{0}, 1<<63, 0, 0),
		drops(1<<63, []int{0}, 1<<63, 1, 1<<63), // the sum would be 0, if it wrapped round
		drops(greatest, []int{0}, 1<<63, 2, greatest),
		puts(1<<63-1, []int{0, 3}, greatest, 2, greatest),
		takes([]int{3}, 1<<63-1, 2, greatest),
		drops(1<<63+1, []int{3}, 1<<63-1, 3, greatest),
		puts(1<<63, []int{3, 6}, greatest, 3, greatest),
	)
	steps(t, greatest-1,
		drops(greatest, none(), 0, 1, greatest),
		puts(greatest-1, []int{1}, greatest-1, 1, greatest),
		drops(1, []int{1}, greatest-1, 2, greatest),
		drops(2, []int{1}, greatest-1, 3, greatest),
		takes(none(), 0, 3, greatest),
		puts(greatest-2, []int{5}, greatest-2, 3, greatest),
		drops(2, []int{5}, greatest-2, 4, greatest),
		drops(3, []int{5}, greatest-2, 5, greatest), // the sum would be greatest at most, if it stopped there
		puts(1, []int{5, 8}, greatest-1, 5, greatest),
	)
	steps(t, 7, puts(5, []int{0}, 5, 0, 0), drops(greatest-4, []int{0}, 5, 1, greatest-4), drops(greatest, []int{0}, 5, 2, greatest), puts(2, []int{0, 3}, 7, 2, greatest))
}

// P19.1 (V1: Dropped; DOC.md, rule 10): how many were, and their bytes, which add up, and stop at the greatest number; what is dropped changes neither the packets nor their bytes, and what is put, or taken, not what was dropped.
func TestDropped(t *testing.T) {
	steps(t, 10,
		puts(4, []int{0}, 4, 0, 0),
		drops(7, []int{0}, 4, 1, 7),
		drops(100, []int{0}, 4, 2, 107),
		drops(7, []int{0}, 4, 3, 114),
		puts(6, []int{0, 4}, 10, 3, 114),
		drops(1, []int{0, 4}, 10, 4, 115),
		takes([]int{4}, 6, 4, 115),
		takes(none(), 0, 4, 115),
		lacks(4, 115),
		drops(11, none(), 0, 5, 126),
		puts(10, []int{10}, 10, 5, 126),
	)
	// the sum runs over, and how many does not
	steps(t, 1, drops(greatest-1, none(), 0, 1, greatest-1), drops(2, none(), 0, 2, greatest), drops(2, none(), 0, 3, greatest), puts(1, []int{3}, 1, 3, greatest), drops(greatest, []int{3}, 1, 4, greatest))
	steps(t, 1, drops(greatest-2, none(), 0, 1, greatest-2), puts(1, []int{1}, 1, 1, greatest-2), drops(1, []int{1}, 1, 2, greatest-1), drops(1, []int{1}, 1, 3, greatest), drops(1, []int{1}, 1, 4, greatest))
	steps(t, 0, drops(1<<63, none(), 0, 1, 1<<63), drops(1<<63, none(), 0, 2, greatest), drops(1, none(), 0, 3, greatest))
}

// P19.1 (V1: Shift): the room that it makes is there for the next one: just that.
func TestShiftMakesRoom(t *testing.T) {
	steps(t, 1000,
		puts(300, []int{0}, 300, 0, 0),
		puts(700, []int{0, 1}, 1000, 0, 0),
		drops(300, []int{0, 1}, 1000, 1, 300),
		takes([]int{1}, 700, 1, 300),
		drops(301, []int{1}, 700, 2, 601),
		puts(300, []int{1, 5}, 1000, 2, 601),
		takes([]int{5}, 300, 2, 601),
		drops(701, []int{5}, 300, 3, 1302),
		puts(700, []int{5, 8}, 1000, 3, 1302),
		takes([]int{8}, 700, 3, 1302),
		takes(none(), 0, 3, 1302),
		lacks(3, 1302),
		drops(1001, none(), 0, 4, 2303), // Shift of nothing makes no room
		puts(1000, []int{13}, 1000, 4, 2303),
	)
}

// P19.1 (V1: Head, Shift): Head tells what Shift then takes, as often as it is asked, and takes nothing.
func TestHeadAgainstShift(t *testing.T) {
	q := queue.New(100)
	for i := range 5 {
		q.Put(parcel(i, uint64(i)))
	}
	for i := range 5 {
		for range 3 {
			if p, ok := q.Head(); p != parcel(i, uint64(i)) || !ok {
				t.Errorf("Head %d: %v, %v", i, p, ok)
			}
		}
		if len(q.All()) != 5-i {
			t.Errorf("Head %d: %d packets are left", i, len(q.All()))
		}
		if p, ok := q.Shift(); p != parcel(i, uint64(i)) || !ok {
			t.Errorf("Shift %d: %v, %v", i, p, ok)
		}
	}
	if p, ok := q.Head(); ok || p != (api.Packet{}) {
		t.Errorf("Head of none: %v", p)
	}
}

// P19.1 (V1: Put, Head, Shift, All): all fields of a packet are kept as they were put, each by itself, also those of packets that are alike.
func TestFields(t *testing.T) {
	for _, p := range []api.Packet{
		{},
		{N: 1},
		{N: greatest},
		{Size: 1},
		{Size: greatest},
		{Stamp: api.Stamp{Sent: 1}},
		{Stamp: api.Stamp{Sent: greatest}},
		{Stamp: api.Stamp{First: 1}},
		{Stamp: api.Stamp{First: greatest}},
		{Stamp: api.Stamp{Delivered: 1}},
		{Stamp: api.Stamp{Delivered: greatest}},
		{Stamp: api.Stamp{At: 1}},
		{Stamp: api.Stamp{At: greatest}},
		{Stamp: api.Stamp{Limited: true}},
		{N: 1, Size: 2, Stamp: api.Stamp{Sent: 3, First: 4, Delivered: 5, At: 6, Limited: true}},
		{N: greatest, Size: 0, Stamp: api.Stamp{Sent: greatest, First: greatest, Delivered: greatest, At: greatest, Limited: true}},
	} {
		q := queue.New(greatest)
		if !q.Put(p) {
			t.Fatalf("%v is dropped", p)
		}
		q.Put(api.Packet{N: 9}) // behind it
		head, there := q.Head()
		all := q.All()
		taken, ok := q.Shift()
		if head != p || !there || taken != p || !ok || len(all) != 2 || all[0] != p || all[1] != (api.Packet{N: 9}) {
			t.Errorf("%v: Head %v, All %v, Shift %v", p, head, all, taken)
		}
	}
	// the same one twice is two
	q, p := queue.New(10), parcel(4, 5)
	if !q.Put(p) || !q.Put(p) || q.Put(p) || !slices.Equal(q.All(), []api.Packet{p, p}) || q.Bytes() != 10 {
		t.Errorf("a packet twice: %v", look(q))
	}
}

// P19.1 (V1: All; DOC.md, rule 4): what All told is the asker's: no change of it changes a queue, nor what All told elsewhere; and no call on the queue changes it.
func TestAllIsNew(t *testing.T) {
	for _, n := range []int{0, 1, 2, 3, 4, 5, 8, 9} {
		q := queue.New(1000)
		for i := range n + 2 {
			q.Put(parcel(i, 10))
		}
		q.Shift()
		q.Shift()
		want, other, first := look(q), q.All(), q.All()
		for i := range first {
			first[i] = parcel(77, 3)
		}
		if first = append(first, parcel(78, 4)); len(first) != n+1 {
			t.Errorf("%d packets: All told %d", n, len(first)-1)
		}
		if got := look(q); !got.same(want) || !slices.Equal(other, want.all) {
			t.Errorf("%d packets: %v behind a change of what All told, not %v", n, got, want)
		}
		q.Put(parcel(90, 10))
		q.Shift()
		q.Put(parcel(91, 10))
		if !slices.Equal(other, want.all) || len(want.all) != n {
			t.Errorf("%d packets: calls on the queue changed what All told: %v", n, other)
		}
		// what was appended behind the list is not in the queue
		left := append(slices.Clone(want.all), parcel(90, 10), parcel(91, 10))[1:]
		if all := q.All(); !slices.Equal(all, left) {
			t.Errorf("%d packets: %v, not %v", n, all, left)
		}
	}
}

// P19.1 (V1: All), with many packets: all of them, in order, and behind many puts and takes, by which the queue grows, stays, falls, and grows again.
func TestMany(t *testing.T) {
	const many = 100000
	q, x := queue.New(greatest), start(greatest)
	fill := func(from, to int) {
		for i := from; i < to; i++ {
			p := parcel(i, uint64(i%1500))
			x.in = append(x.in, p)
			if !q.Put(p) {
				t.Fatalf("%d is dropped", i)
			}
		}
	}
	drain := func(n int) {
		for range n {
			if p, ok := q.Shift(); !ok || p != x.in[0] {
				t.Fatalf("%v is taken, not %v", p, x.in[0])
			}
			x.in = x.in[1:]
		}
	}
	hold := func() {
		if got := look(q); !got.same(x.look()) {
			t.Fatalf("with %d packets, %d bytes are told, and %d packets", len(x.in), got.bytes, len(got.all))
		}
	}
	fill(0, many)
	hold()
	drain(many / 3)
	hold()
	for i := range 1000 { // two more, one less, and then the other way round
		fill(many+2*i, many+2*i+2)
		drain(1)
	}
	hold()
	drain(many / 3)
	hold()
	fill(2*many, 2*many+many/2)
	hold()
	drain(len(x.in))
	hold()
	fill(3*many, 3*many+5)
	hold()
}

// P19.1, P1, T1: whatever a queue is told: any row of calls at their edges, and mixed calls of several scales, against a plain one.
func TestAnyCalls(t *testing.T) {
	for _, room := range rooms() {
		rows(4, edges(), func(l []call) { run(t, room, l) })
	}
	few := []call{put(0), put(1), put(2), put(3), shift()}
	for _, room := range []uint64{1, 3, 4} {
		rows(6, few, func(l []call) { run(t, room, l) })
	}
	for i, s := range scales() {
		for n := range 40 {
			room, l := mixed(150, mixer(1000*i+n), s)
			run(t, room, l)
		}
	}
}

// P19.1, P1: a nil queue does nothing, and answers false, nothing, and 0.
func TestNil(t *testing.T) {
	var q *queue.Queue
	for i, c := range edges() {
		if got := c.do(i, q); got != (answer{}) {
			t.Errorf("nil: %v: %v", c, got)
		}
		if got := look(q); !got.same(told{}) {
			t.Errorf("nil, behind %v: %v", c, got)
		}
	}
}

// P2: a queue hangs on its own calls alone, not on another one's, and not on how often it is asked.
func TestOwnCallsAlone(t *testing.T) {
	few := []call{put(0), put(1), put(3), put(greatest), shift()}
	rows(4, few, func(l []call) {
		const room, others = 4, 5
		q, other, idle := queue.New(room), queue.New(others), queue.New(room)
		if q == other || q == idle {
			t.Fatal("two new queues are one")
		}
		back := slices.Clone(l)
		slices.Reverse(back)
		for i := range l {
			back[i].do(i, other)
			look(q)
			l[i].do(i, q)
			look(other)
		}
		for _, y := range []struct {
			q *queue.Queue
			x *plain
		}{{q, plainly(room, l)}, {other, plainly(others, back)}, {idle, start(room)}} {
			if got := look(y.q); !got.same(y.x.look()) {
				t.Fatalf("%v beside other queues: %v, not %v", l, got, y.x.look())
			}
		}
	})
}
