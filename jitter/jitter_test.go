package jitter_test

import (
	"slices"
	"testing"

	"goit/api"
	"goit/jitter"
)

// step is a call, when what it puts is due, or the numbers of what comes out, and what the box tells then: the numbers of the packets that are in it, and when the first one is due.
type step struct {
	call
	due  uint64
	out  []int
	in   []int
	next uint64
}

func puts(now, choice, due uint64, in []int, next uint64) step {
	return step{put(now, choice), due, nil, in, next}
}

func outs(now uint64, come, in []int, next uint64) step {
	return step{out(now), 0, come, in, next}
}

// none is no packet.
func none() []int { return nil }

// steps holds a new box against them, one by one; the same calls are held against a plain one, so that this one is looked at as well.
func steps(t *testing.T, s setup, l ...step) {
	t.Helper()
	b := s.box()
	if b == nil {
		t.Fatal("a new box is nil")
	}
	var calls []call
	for i, x := range l {
		got, want := x.do(i, b), answer{x.due, parcels(x.out...)}
		if !got.same(want) {
			t.Fatalf("%v, step %d, %v: %v, not %v", s, i, x.call, got, want)
		}
		then := told{x.next, len(x.in) > 0, len(x.in), parcels(x.in...)}
		if got := look(b); !got.same(then) {
			t.Fatalf("%v, step %d, %v: %v then, not %v", s, i, x.call, got, then)
		}
		calls = append(calls, x.call)
	}
	run(t, s, calls)
}

// P20.1 (J1: New): a box at first is empty: Out and All tell none, Next 0 and false, Len 0; and it is as good as new behind that.
func TestNew(t *testing.T) {
	for _, s := range setups() {
		b := s.box()
		for _, now := range []uint64{0, 1, greatest, 0} {
			if got := look(b); !got.same(told{}) {
				t.Errorf("%v: %v", s, got)
			}
			if l := b.Out(now); len(l) != 0 {
				t.Errorf("%v: Out at %d tells %v", s, now, l)
			}
		}
		if due := b.Put(parcel(1), 0, 0); due != s.delay || b.Len() != 1 {
			t.Errorf("%v: the first one is due at %d", s, due)
		}
	}
}

// P20.1 (J1: Put): it is due at now, the delay, and the choice, or the jitter, if that is less.
func TestPut(t *testing.T) {
	// a choice less than the jitter, a microsecond less, the same, one more, and far more
	steps(t, setup{1000, 50},
		puts(10, 20, 1030, []int{0}, 1030),
		puts(10, 49, 1059, []int{0, 1}, 1030),
		puts(10, 50, 1060, []int{0, 1, 2}, 1030),
		puts(11, 50, 1061, []int{0, 1, 2, 3}, 1030),
		puts(12, 51, 1062, []int{0, 1, 2, 3, 4}, 1030),
		puts(20, greatest, 1070, []int{0, 1, 2, 3, 4, 5}, 1030),
		puts(100, 0, 1100, []int{0, 1, 2, 3, 4, 5, 6}, 1030),
		puts(100, 1, 1101, []int{0, 1, 2, 3, 4, 5, 6, 7}, 1030),
	)
	// no delay, and no jitter: what comes is due
	steps(t, setup{0, 0}, puts(0, 0, 0, []int{0}, 0), puts(0, 1, 0, []int{0, 1}, 0), puts(7, greatest, 7, []int{0, 1, 2}, 0), outs(6, []int{0, 1}, []int{2}, 7), outs(7, []int{2}, none(), 0))
	// no delay, a jitter of 1
	steps(t, setup{0, 1}, puts(0, 0, 0, []int{0}, 0), puts(0, 1, 1, []int{0, 1}, 0), puts(1, 2, 2, []int{0, 1, 2}, 0), puts(4, greatest, 5, []int{0, 1, 2, 3}, 0))
	// a delay of 1, no jitter
	steps(t, setup{1, 0}, puts(0, 0, 1, []int{0}, 1), puts(0, 1, 1, []int{0, 1}, 1), puts(1, greatest, 2, []int{0, 1, 2}, 1))
	steps(t, setup{1, 1}, puts(0, 0, 1, []int{0}, 1), puts(0, 1, 2, []int{0, 1}, 1), puts(1, 2, 3, []int{0, 1, 2}, 1))
}

// P20.1 (J1: Put): a packet that would be due ahead of the one that was put ahead of it is due when that one is; so is the next one.
func TestNotAhead(t *testing.T) {
	steps(t, setup{1000, 50},
		puts(10, 20, 1030, []int{0}, 1030),
		puts(15, 0, 1030, []int{0, 1}, 1030),
		puts(20, 99, 1070, []int{0, 1, 2}, 1030),
		puts(21, 0, 1070, []int{0, 1, 2, 3}, 1030),
		puts(69, 0, 1070, []int{0, 1, 2, 3, 4}, 1030),           // a microsecond ahead
		puts(70, 0, 1070, []int{0, 1, 2, 3, 4, 5}, 1030),        // just then
		puts(71, 0, 1071, []int{0, 1, 2, 3, 4, 5, 6}, 1030),     // one behind
		puts(60, 12, 1072, []int{0, 1, 2, 3, 4, 5, 6, 7}, 1030), // its choice takes it behind
		outs(1070, []int{0, 1, 2, 3, 4, 5}, []int{6, 7}, 1071),
		outs(1072, []int{6, 7}, none(), 0),
	)
	// times that go back
	steps(t, setup{100, 10},
		puts(500, 0, 600, []int{0}, 600),
		puts(499, 0, 600, []int{0, 1}, 600),
		puts(0, 0, 600, []int{0, 1, 2}, 600),
		puts(0, 10, 600, []int{0, 1, 2, 3}, 600),
		puts(495, 6, 601, []int{0, 1, 2, 3, 4}, 600),
		outs(0, none(), []int{0, 1, 2, 3, 4}, 600),
		outs(600, []int{0, 1, 2, 3}, []int{4}, 601),
		outs(600, none(), []int{4}, 601),
		puts(3, 3, 601, []int{4, 8}, 601),
		outs(601, []int{4, 8}, none(), 0),
	)
	// also when that one was taken away
	steps(t, setup{100, 50},
		puts(10, 50, 160, []int{0}, 160),
		outs(160, []int{0}, none(), 0),
		puts(20, 0, 160, []int{2}, 160),
		outs(159, none(), []int{2}, 160),
		outs(160, []int{2}, none(), 0),
		puts(0, 0, 160, []int{5}, 160),
		puts(61, 0, 161, []int{5, 6}, 160),
		outs(greatest, []int{5, 6}, none(), 0), // how late it is when they come out does not count
		puts(60, 0, 161, []int{8}, 161),
		puts(62, 0, 162, []int{8, 9}, 161),
	)
	// Out of what is not there does not count either
	steps(t, setup{5, 0}, outs(1000, none(), none(), 0), puts(3, 0, 8, []int{1}, 8))
}

// P20.1 (J1: Put; DOC.md, rule 10): sums of now, delay and choice near, and beyond, the greatest number: it is that one then, and comes out at that.
func TestGreat(t *testing.T) {
	steps(t, setup{10, 5},
		puts(greatest-15, 4, greatest-1, []int{0}, greatest-1),
		puts(greatest-15, 5, greatest, []int{0, 1}, greatest-1),
		puts(greatest-14, 5, greatest, []int{0, 1, 2}, greatest-1), // one beyond
		puts(greatest, 0, greatest, []int{0, 1, 2, 3}, greatest-1),
		outs(greatest-2, none(), []int{0, 1, 2, 3}, greatest-1),
		outs(greatest-1, []int{0}, []int{1, 2, 3}, greatest),
		puts(0, 0, greatest, []int{1, 2, 3, 6}, greatest),
		outs(greatest, []int{1, 2, 3, 6}, none(), 0),
		puts(0, 0, greatest, []int{8}, greatest),
	)
	// the greatest delay, and jitter
	steps(t, setup{greatest, 0}, puts(0, 0, greatest, []int{0}, greatest), puts(1, 9, greatest, []int{0, 1}, greatest), outs(greatest-1, none(), []int{0, 1}, greatest), outs(greatest, []int{0, 1}, none(), 0))
	steps(t, setup{0, greatest}, puts(0, 0, 0, []int{0}, 0), puts(0, greatest-1, greatest-1, []int{0, 1}, 0), puts(1, greatest-1, greatest, []int{0, 1, 2}, 0), puts(1, greatest, greatest, []int{0, 1, 2, 3}, 0), puts(0, greatest, greatest, []int{0, 1, 2, 3, 4}, 0), outs(greatest-1, []int{0, 1}, []int{2, 3, 4}, greatest))
	steps(t, setup{greatest, greatest}, puts(greatest, greatest, greatest, []int{0}, greatest), puts(0, 0, greatest, []int{0, 1}, greatest), outs(greatest-1, none(), []int{0, 1}, greatest), outs(greatest, []int{0, 1}, none(), 0))
	// the sum would be 0, or little, if it wrapped round
	steps(t, setup{1 << 63, 9}, puts(1<<63, 0, greatest, []int{0}, greatest), puts(1<<63-1, 0, greatest, []int{0, 1}, greatest))
	steps(t, setup{1 << 63, 9}, puts(1<<63-1, 0, greatest, []int{0}, greatest))
	steps(t, setup{1 << 63, 9}, puts(1<<63-2, 0, greatest-1, []int{0}, greatest-1))
	steps(t, setup{1, 1 << 63}, puts(1<<63-1, greatest, greatest, []int{0}, greatest))
	steps(t, setup{1, 1 << 63}, puts(1<<63-2, greatest, greatest, []int{0}, greatest))
	steps(t, setup{1, 1 << 63}, puts(1<<63-3, greatest, greatest-1, []int{0}, greatest-1))
	steps(t, setup{1 << 63, 1 << 63}, puts(0, 1<<63, greatest, []int{0}, greatest))
	steps(t, setup{1 << 63, 1 << 63}, puts(0, 1<<63-1, greatest, []int{0}, greatest))
	steps(t, setup{1 << 63, 1 << 63}, puts(0, 1<<63-2, greatest-1, []int{0}, greatest-1))
}

// P20.1 (J1: Out, Next): just when the first one is due, a microsecond ahead, and behind; of some, up to the first that is not due, and of all; what came out does not come again.
func TestOut(t *testing.T) {
	for _, at := range []uint64{130, 131, 500, greatest} {
		steps(t, setup{100, 50}, puts(10, 20, 130, []int{0}, 130), outs(0, none(), []int{0}, 130), outs(129, none(), []int{0}, 130), outs(at, []int{0}, none(), 0), outs(at, none(), none(), 0), outs(greatest, none(), none(), 0))
	}
	steps(t, setup{100, 50},
		puts(0, 0, 100, []int{0}, 100),
		puts(10, 0, 110, []int{0, 1}, 100),
		puts(10, 5, 115, []int{0, 1, 2}, 100),
		puts(15, 0, 115, []int{0, 1, 2, 3}, 100),
		puts(40, 50, 190, []int{0, 1, 2, 3, 4}, 100),
		puts(41, 0, 190, []int{0, 1, 2, 3, 4, 5}, 100), // it would be due at 141, and waits for the one ahead
		outs(109, []int{0}, []int{1, 2, 3, 4, 5}, 110),
		outs(109, none(), []int{1, 2, 3, 4, 5}, 110),
		outs(114, []int{1}, []int{2, 3, 4, 5}, 115),
		outs(150, []int{2, 3}, []int{4, 5}, 190),
		outs(20, none(), []int{4, 5}, 190), // time may go back
		puts(150, 0, 250, []int{4, 5, 11}, 190),
		outs(190, []int{4, 5}, []int{11}, 250),
		outs(249, none(), []int{11}, 250),
		outs(1000, []int{11}, none(), 0),
		outs(1000, none(), none(), 0),
		puts(1000, 0, 1100, []int{16}, 1100),
		puts(1000, 0, 1100, []int{16, 17}, 1100),
		puts(1001, 0, 1101, []int{16, 17, 18}, 1100),
		outs(1100, []int{16, 17}, []int{18}, 1101),
		outs(greatest, []int{18}, none(), 0),
	)
	// all at once
	steps(t, setup{0, 9}, puts(0, 0, 0, []int{0}, 0), puts(1, 5, 6, []int{0, 1}, 0), puts(9, 9, 18, []int{0, 1, 2}, 0), outs(18, []int{0, 1, 2}, none(), 0))
	steps(t, setup{0, 9}, puts(0, 0, 0, []int{0}, 0), outs(0, []int{0}, none(), 0), outs(0, none(), none(), 0))
}

// P20.1 (J1: Put, Out, All): all fields of a packet are kept as they were put, each by itself, also those of packets that are alike.
func TestFields(t *testing.T) {
	for _, p := range []api.Packet{
		{},
		{N: 1},
		{N: greatest},
		{Size: 1},
		{Size: greatest},
		{Stamp: api.Stamp{Sent: 1}},
		{Stamp: api.Stamp{Sent: greatest}},
		{Stamp: api.Stamp{First: 1}},
		{Stamp: api.Stamp{First: greatest}},
		{Stamp: api.Stamp{Delivered: 1}},
		{Stamp: api.Stamp{Delivered: greatest}},
		{Stamp: api.Stamp{At: 1}},
		{Stamp: api.Stamp{At: greatest}},
		{Stamp: api.Stamp{Limited: true}},
		{N: 1, Size: 2, Stamp: api.Stamp{Sent: 3, First: 4, Delivered: 5, At: 6, Limited: true}},
		{N: greatest, Size: 0, Stamp: api.Stamp{Sent: greatest, First: greatest, Delivered: greatest, At: greatest, Limited: true}},
	} {
		b := jitter.New(7, 2)
		// neither its number, nor its bytes, nor its stamp tell when it is due
		if due := b.Put(p, 3, 1); due != 11 {
			t.Errorf("%v is due at %d", p, due)
		}
		b.Put(api.Packet{N: 9}, 3, 1) // behind it
		b.Put(p, 4, 1)
		want := []api.Packet{p, {N: 9}, p}
		all, two, one := b.All(), b.Out(11), b.Out(12)
		if !slices.Equal(all, want) || !slices.Equal(two, want[:2]) || !slices.Equal(one, want[2:]) {
			t.Errorf("%v: All %v, Out %v, then %v", p, all, two, one)
		}
	}
	// the same one twice is two
	b, p := jitter.New(0, 0), parcel(4)
	b.Put(p, 0, 0)
	b.Put(p, 0, 0)
	if b.Len() != 2 || !slices.Equal(b.All(), []api.Packet{p, p}) || !slices.Equal(b.Out(0), []api.Packet{p, p}) || b.Len() != 0 {
		t.Errorf("a packet twice: %v", look(b))
	}
}

// spoil writes into a list, and behind its length.
func spoil(l []api.Packet) {
	for i := range l {
		l[i] = parcel(770 + i)
	}
	l = l[:cap(l)]
	for i := range l {
		l[i] = parcel(880 + i)
	}
}

// P20.1 (J1: All, Out; DOC.md, rule 4): what All, and Out, told is the asker's: no change of it changes a box, nor what was told elsewhere; and no call on the box changes it.
func TestListsAreNew(t *testing.T) {
	for _, n := range []int{0, 1, 2, 3, 4, 5, 8, 9, 17} {
		b := jitter.New(10, 0)
		var early, late []int
		for i := range n {
			b.Put(parcel(i), 0, 0)
			early = append(early, i)
		}
		for i := range n + 1 {
			b.Put(parcel(50+i), 1, 0)
			late = append(late, 50+i)
		}
		spoil(b.All())
		all := b.All()
		first := b.Out(10)
		if !slices.Equal(all, parcels(slices.Concat(early, late)...)) || !slices.Equal(first, parcels(early...)) {
			t.Fatalf("%d packets: All %v, Out %v", n, all, first)
		}
		rest := b.All()
		spoil(first)
		if got := b.All(); !slices.Equal(got, parcels(late...)) || !slices.Equal(rest, parcels(late...)) || !slices.Equal(all, parcels(slices.Concat(early, late)...)) {
			t.Errorf("%d packets: %v behind a change of what Out told, not %v", n, got, parcels(late...))
		}
		b.Put(parcel(90), 1, 0)
		second := b.Out(11)
		b.Put(parcel(91), 1, 0)
		if !slices.Equal(rest, parcels(late...)) || !slices.Equal(second, parcels(append(late, 90)...)) {
			t.Errorf("%d packets: calls on the box changed what All told, to %v, or Out tells %v", n, rest, second)
		}
		spoil(all)
		spoil(rest)
		spoil(second)
		if got := look(b); !got.same(told{11, true, 1, parcels(91)}) {
			t.Errorf("%d packets: %v is left", n, got)
		}
	}
}

// P20.1 (J1: All, Out), with many packets: all of them, in order, and behind many puts and outs, by which the box grows, stays, falls, and grows again.
func TestMany(t *testing.T) {
	const many, delay = 100000, 3
	b := jitter.New(delay, 0)
	var in []api.Packet
	first := 0 // the i-th one is put at i, so this is also when the first one that is in it was put
	fill := func(n int) {
		for range n {
			i := first + len(in)
			p := parcel(i)
			in = append(in, p)
			if due := b.Put(p, uint64(i), 0); due != uint64(i)+delay {
				t.Fatalf("%d is due at %d", i, due)
			}
		}
	}
	drain := func(n int) {
		got := b.Out(uint64(first+n-1) + delay)
		if !slices.Equal(got, in[:n]) {
			t.Fatalf("%d come out, not %d", len(got), n)
		}
		in, first = in[n:], first+n
	}
	hold := func() {
		want := told{uint64(first) + delay, true, len(in), in}
		if len(in) == 0 {
			want.next, want.some = 0, false
		}
		if got := look(b); !got.same(want) {
			t.Fatalf("with %d packets, %d are told, the next one at %d", len(in), len(got.all), got.next)
		}
	}
	fill(many)
	hold()
	drain(many / 3)
	hold()
	for range 1000 { // two more, one less
		fill(2)
		drain(1)
	}
	hold()
	drain(many / 3)
	hold()
	fill(many / 2)
	hold()
	drain(len(in))
	hold()
	fill(5)
	hold()
}

// P20.1, P1, T1: whatever a box is told: any row of calls at their edges, and mixed calls of several scales, against a plain one.
func TestAnyCalls(t *testing.T) {
	for _, s := range setups() {
		rows(4, edges(), func(l []call) { run(t, s, l) })
	}
	few := []call{put(0, 0), put(0, 2), put(1, 1), put(3, 0), out(2), out(4)}
	for _, s := range []setup{{0, 0}, {1, 2}, {2, 1}} {
		rows(6, few, func(l []call) { run(t, s, l) })
	}
	for i, s := range scales() {
		for n := range 40 {
			s, l := mixed(150, mixer(1000*i+n), s)
			run(t, s, l)
		}
	}
}

// P20.1, P1: a nil box does nothing, and answers 0, nothing, and false.
func TestNil(t *testing.T) {
	var b *jitter.Box
	for i, c := range edges() {
		if got := c.do(i, b); !got.same(answer{}) {
			t.Errorf("nil: %v: %v", c, got)
		}
		if got := look(b); !got.same(told{}) {
			t.Errorf("nil, behind %v: %v", c, got)
		}
	}
}

// P2: a box hangs on its own calls alone, not on another one's, and not on how often it is asked.
func TestOwnCallsAlone(t *testing.T) {
	few := []call{put(0, 0), put(0, 2), put(3, 1), put(greatest, 0), out(3), out(greatest)}
	rows(4, few, func(l []call) {
		one, two := setup{2, 1}, setup{1, 5}
		b, other, idle := one.box(), two.box(), one.box()
		if b == other || b == idle {
			t.Fatal("two new boxes are one")
		}
		back := slices.Clone(l)
		slices.Reverse(back)
		for i := range l {
			back[i].do(i, other)
			look(b)
			l[i].do(i, b)
			look(other)
		}
		for _, y := range []struct {
			b *jitter.Box
			x *plain
		}{{b, one.plainly(l)}, {other, two.plainly(back)}, {idle, one.plainly(nil)}} {
			if got := look(y.b); !got.same(y.x.look()) {
				t.Fatalf("%v beside other boxes: %v, not %v", l, got, y.x.look())
			}
		}
	})
}
