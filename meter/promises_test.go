package meter_test

import (
	"slices"
	"testing"

	"goit/api"
	"goit/link"
	"goit/meter"
)

// fine holds the curves of turns against P22.2: they are in the envelope, of the room in which they were run, and are the curves of their turns.
func fine(t *testing.T, room uint64, l []meter.Turn) []meter.Row {
	t.Helper()
	told := runs(t, room, l)
	if i, c := meter.Check(room, told...); i != 0 || c != meter.Fine {
		t.Fatalf("room %d, %v: the curves %v: %d, %d", room, tail(l), tail(told), i, c)
	}
	if !kept(t, room, told) {
		t.Fatalf("room %d, %v: %v are no curves", room, tail(l), tail(told))
	}
	return told
}

// P22.2, T2: the curves of any turns are in the envelope, for any room.
func TestCurvesAreFine(t *testing.T) {
	for room := range uint64(5) {
		each(2, smallTurns(2), func(l []meter.Turn) { fine(t, room, l) })
	}
	for i, s := range scales() {
		for n := range 40 {
			m := mixer(40000 + 1000*i + n)
			room, l := mixed(60, &m, s)
			fine(t, room, l)
		}
	}
	for _, room := range []uint64{0, 1, step - 1, step, step + 1, widest - 1, widest} {
		var edges []meter.Turn
		for _, gain := range []uint64{0, step - 1, step} {
			for _, come := range []uint64{0, step - 1, step} {
				for _, waste := range []uint64{0, step - 1, step} {
					edges = append(edges, turn(gain, come, waste))
				}
			}
		}
		each(2, edges, func(l []meter.Turn) { fine(t, room, l) })
	}
}

// P22.2, T2: rows that are in the envelope, and no others, are the curves of a fluid link: of all rows of small numbers those that are fine are just the curves of all turns.
func TestNoOthers(t *testing.T) {
	for room := range uint64(4) {
		curves, found := map[[2]meter.Row]int{}, map[[2]meter.Row]int{}
		each(2, smallTurns(2), func(l []meter.Turn) {
			x := bytewise(room, l)
			if slices.Max([]uint64{x[1].Gain, x[1].Came, x[1].Dropped, x[1].Served, x[1].Wasted}) <= 2 {
				curves[[2]meter.Row(x)]++
			}
		})
		each(2, smallRows(2), func(l []meter.Row) {
			if kept(t, room, l) {
				found[[2]meter.Row(l)]++
			}
		})
		for x := range curves {
			if found[x] == 0 {
				t.Errorf("room %d: %v are curves, and not in the envelope", room, x)
			}
		}
		for x := range found {
			if curves[x] == 0 {
				t.Errorf("room %d: %v are in the envelope, and no curves", room, x)
			}
		}
		if len(found) < 50 {
			t.Errorf("room %d: only %d are in the envelope", room, len(found))
		}
	}
}

// P22.2: what is in the envelope behind curves, and no more, goes on as curves do: rows beside those of any small turns.
func TestBeside(t *testing.T) {
	var beside [][]uint64
	each(5, []uint64{0, 1, 2}, func(x []uint64) { beside = append(beside, slices.Clone(x)) })
	for room := range uint64(3) {
		seen := map[meter.Row]int{}
		each(2, smallTurns(2), func(l []meter.Turn) {
			told := runs(t, room, l)
			if seen[told[1]]++; seen[told[1]] > 1 {
				return // no clause looks further back
			}
			for _, x := range beside {
				next := told[1]
				for i, n := range numbers(&next) {
					*n += x[i] - 1
				}
				kept(t, room, append(slices.Clone(told), next))
			}
		})
	}
}

// P22.1 (W1: Check), P22.2: rows at, and beside, the edges of clauses, of eleven scales: what is told of them, and that those in the envelope are the curves of their turns.
func TestEdges(t *testing.T) {
	var is [6]int
	for i, s := range scales() {
		for n := range 400 {
			m := mixer(80000 + 1000*i + n)
			room := m.number(s.room)
			var l []meter.Row
			ahead := meter.Row{}
			for range 30 {
				next := m.edged(room, ahead, s)
				so := clauses(room, ahead, next)
				if l = append(l, next); len(so) > 0 {
					is[so[0]]++
					break
				}
				is[meter.Fine]++
				ahead = next
			}
			kept(t, room, l)
		}
	}
	for c, n := range is {
		if n < 100 {
			t.Errorf("clause %d was so for %d rows alone: the rows are too much alike", c, n)
		}
	}
}

// changed holds curves of which one number is one more, or one less, against P22.2: they are not in the envelope, or are the curves of other turns.
func changed(t *testing.T, room uint64, told []meter.Row, at int) {
	t.Helper()
	of := meter.Turns(told...)
	for i := range 5 {
		for _, by := range []uint64{1, greatest} { // with the greatest number it wraps round to one less
			other := slices.Clone(told)
			*numbers(&other[at])[i] += by
			if kept(t, room, other) && slices.Equal(meter.Turns(other...), of) {
				t.Fatalf("room %d: %v and %v, changed at %d, are the curves of the same turns", room, tail(told), tail(other), at)
			}
		}
	}
}

// P22.2: a change of one number of curves by one, more or less, in any row.
func TestChangedByOne(t *testing.T) {
	for room := range uint64(4) {
		each(2, smallTurns(2), func(l []meter.Turn) {
			told := runs(t, room, l)
			changed(t, room, told, 0)
			changed(t, room, told, 1)
		})
	}
	for i, s := range scales() {
		for n := range 12 {
			m := mixer(60000 + 1000*i + n)
			room, l := mixed(20, &m, s)
			told := runs(t, room, l)
			for at := range told {
				changed(t, room, told, at)
			}
		}
	}
	// at the greatest sums that there are
	for _, x := range []struct {
		room uint64
		turn meter.Turn
	}{{step, turn(step, step, step)}, {widest, turn(0, step, 0)}, {0, turn(step, step, step)}} {
		changed(t, x.room, runs(t, x.room, slices.Repeat(turns(x.turn), many)), many-1)
	}
}

// T4: what is in the queue of curves is served as soon as the tokens that come from then on are as many; that is no longer than a full buffer needs.
func TestWait(t *testing.T) {
	waits := 0
	for i, s := range scales() {
		for n := range 30 {
			m := mixer(20000 + 1000*i + n)
			room, l := mixed(60, &m, s)
			told := fine(t, room, l)
			for j, r := range told {
				queue := r.Came - r.Dropped - r.Served
				if queue > room {
					t.Fatalf("room %d: %d bytes are in the queue behind %v", room, queue, r)
				}
				for _, later := range told[j:] {
					if later.Gain-r.Gain < queue {
						waits++
					} else if later.Served < r.Came-r.Dropped {
						t.Fatalf("room %d: what came till %v is not served by %v", room, r, later)
					}
				}
			}
		}
	}
	if waits < 1000 {
		t.Errorf("only %d times something had to wait", waits)
	}
}

// T2: a link of 21 whose packets are all as great is a fluid one, counted in packets: its curves, whatever is wasted and chosen, are those of its turns, and in the envelope.
func TestLinkIsFluid(t *testing.T) {
	var last meter.Row
	for n := range 300 {
		m := mixer(n)
		size, speed := 1+m.number(4), m.number(5)+1 // bytes a packet, packets a microsecond
		room := m.number(30)
		buffer := max(room*size+m.number(size-1), 1)
		room = buffer / size
		k, err := link.New(api.Path{Rate: speed * size * 1000000, Delay: m.number(9), Jitter: m.number(9), Buffer: buffer})
		if err != api.OK {
			t.Fatalf("no link: %d", err)
		}
		var l []meter.Turn
		var told []meter.Row
		now := uint64(0)
		for range 60 {
			long, come, waste := m.number(4), m.number(20), m.number(9)
			now += long
			k.Send(slices.Repeat([]api.Packet{{Size: size}}, int(come))...)
			k.Tick(now, waste*size*1000000, m.number(9), m.number(greatest))
			c := k.Count()
			_, wasted := k.Tokens()
			l = append(l, turn(speed*long, come, waste))
			told = append(told, row(speed*now, c.Came/size, c.Dropped/size, c.Served/size, wasted/size/1000000))
		}
		if want := runs(t, room, l); !slices.Equal(told, want) {
			t.Fatalf("room %d, %d packets a microsecond of %d bytes: %v, not %v", room, speed, size, tail(told), tail(want))
		}
		checks(t, room, told, 0, meter.Fine)
		for i, x := range numbers(&last) {
			*x += *numbers(&told[len(told)-1])[i]
		}
	}
	if slices.Min([]uint64{last.Dropped, last.Served, last.Wasted}) < 1000 {
		t.Errorf("all in all only %v", last)
	}
}

// DOC.md, rule 4: what is handed in stays as it is, and what lies behind its length is neither read nor written.
func TestHandedIn(t *testing.T) {
	for n := range 5 {
		given := turns(turn(5, 20, 0), turn(4, 2, 9), turn(30, 0, 9), turn(greatest, greatest, greatest), turn(0, 7, 3), turn(greatest, 0, 0))
		if n > 3 {
			given[3] = turn(1, 2, 3)
		}
		old := slices.Clone(given)
		told := runs(t, 12, given[:n])
		if want := fluid(12, old[:n]); !slices.Equal(told, want) || !slices.Equal(given, old) {
			t.Errorf("%d turns: %v, not %v; %v were handed in, and are %v", n, told, want, old, given)
		}
		all := append(told, row(greatest, 0, 0, 0, 0), row(0, greatest, 1, greatest, 0))
		before := slices.Clone(all)
		if i, c := meter.Check(12, all[:n]...); i != 0 || c != meter.Fine {
			t.Errorf("%d rows: %d, %d", n, i, c)
		}
		if got := meter.Turns(all[:n]...); !slices.Equal(got, turned(before[:n])) {
			t.Errorf("%d rows: their turns are %v", n, got)
		}
		if i, c := meter.Check(12, all...); i != n || c != meter.Falls {
			t.Errorf("%d rows, and two more: %d, %d", n, i, c)
		}
		if !slices.Equal(all, before) {
			t.Errorf("%v were handed in, and are %v", before, all)
		}
	}
	bad := turns(turn(1, 1, 1), turn(step+1, 1, 1), turn(1, 1, 1))
	old := slices.Clone(bad)
	if meter.Run(12, bad...); !slices.Equal(bad, old) {
		t.Errorf("%v were handed in, and are %v", old, bad)
	}
}

// DOC.md, rule 4, P2: what is told is new memory, so that a change of it changes nothing else; asked again, all is told again, whatever was asked between.
func TestToldAgain(t *testing.T) {
	l := turns(turn(5, 20, 0), turn(4, 2, 9), turn(30, 0, 9))
	want, back := fluid(12, l), turned(fluid(12, l))
	var told [][]meter.Row
	var turned [][]meter.Turn
	for range 4 {
		told = append(told, runs(t, 12, l))
		turned = append(turned, meter.Turns(want...))
		meter.Run(3, turn(9, 9, 9))
		meter.Run(widest+1, l...)
		meter.Check(12, row(9, 9, 9, 9, 9))
		meter.Turns(row(9, 9, 9, 9, 9))
	}
	for i := range told {
		if !slices.Equal(told[i], want) || !slices.Equal(turned[i], back) {
			t.Fatalf("asked again: %v, %v, not %v, %v", told[i], turned[i], want, back)
		}
		for j := range told[i] {
			told[i][j], turned[i][j] = row(1, 2, 3, 4, 5), turn(6, 7, 8)
		}
		_, _ = append(told[i], row(1, 1, 1, 1, 1)), append(turned[i], turn(1, 1, 1))
		if i2, c := meter.Check(12, want...); i2 != 0 || c != meter.Fine {
			t.Fatalf("behind a change: %d, %d", i2, c)
		}
		if !slices.Equal(runs(t, 12, l), want) || !slices.Equal(meter.Turns(want...), back) {
			t.Fatal("a change of what was told changes what is told")
		}
	}
	if !slices.Equal(l, turns(turn(5, 20, 0), turn(4, 2, 9), turn(30, 0, 9))) || !slices.Equal(want, fluid(12, l)) {
		t.Error("a change of what was told changes what was handed in")
	}
}

// P22.1 (W1), Words: the clauses are numbered as they stand there.
func TestClauseNumbers(t *testing.T) {
	for i, c := range []meter.Clause{meter.Fine, meter.Falls, meter.Room, meter.Drop, meter.Serve, meter.Idle} {
		if int(c) != i {
			t.Errorf("clause %d is %d", i, c)
		}
	}
}
