package meter_test

import (
	"slices"
	"testing"

	"goit/api"
	"goit/meter"
)

// P22.1 (W1: Run; Words): curves by hand, each turn's row; a plain link, and a bytewise one, are held against them as well.
func TestRun(t *testing.T) {
	for _, x := range []struct {
		name  string
		room  uint64
		turns []meter.Turn
		rows  []meter.Row
	}{
		{"no turns", 5, nil, nil},
		{"nothing", 5, turns(turn(0, 0, 0)), rows(row(0, 0, 0, 0, 0))},
		{"tokens alone", 5, turns(turn(7, 0, 0)), rows(row(7, 0, 0, 0, 0))},
		{"bytes alone", 5, turns(turn(0, 3, 0)), rows(row(0, 3, 0, 0, 0))},
		{"waste alone, of no tokens", 5, turns(turn(0, 0, 9)), rows(row(0, 0, 0, 0, 0))},

		{"a byte less than there is room for", 5, turns(turn(0, 4, 0)), rows(row(0, 4, 0, 0, 0))},
		{"as many as there is room for", 5, turns(turn(0, 5, 0)), rows(row(0, 5, 0, 0, 0))},
		{"a byte more", 5, turns(turn(0, 6, 0)), rows(row(0, 6, 1, 0, 0))},
		{"a byte less than there is room left", 5, turns(turn(0, 3, 0), turn(0, 1, 0)), rows(row(0, 3, 0, 0, 0), row(0, 4, 0, 0, 0))},
		{"as many as there is room left", 5, turns(turn(0, 3, 0), turn(0, 2, 0)), rows(row(0, 3, 0, 0, 0), row(0, 5, 0, 0, 0))},
		{"a byte more than is left", 5, turns(turn(0, 3, 0), turn(0, 3, 0)), rows(row(0, 3, 0, 0, 0), row(0, 6, 1, 0, 0))},
		{"no room is left", 5, turns(turn(0, 5, 0), turn(0, 1, 0), turn(0, 0, 0), turn(0, 9, 0)), rows(row(0, 5, 0, 0, 0), row(0, 6, 1, 0, 0), row(0, 6, 1, 0, 0), row(0, 15, 10, 0, 0))},
		{"what is served in a turn makes no room in it", 5, turns(turn(9, 7, 0)), rows(row(9, 7, 2, 5, 0))},
		{"but in the next one", 5, turns(turn(3, 7, 0), turn(0, 4, 0)), rows(row(3, 7, 2, 3, 0), row(3, 11, 3, 3, 0))},
		{"nor in a full queue", 5, turns(turn(0, 5, 0), turn(5, 1, 0), turn(0, 1, 0)), rows(row(0, 5, 0, 0, 0), row(5, 6, 1, 5, 0), row(5, 7, 1, 5, 0))},
		{"no room at all", 0, turns(turn(4, 3, 1), turn(1, 2, 9)), rows(row(4, 3, 3, 0, 1), row(5, 5, 5, 0, 5))},
		{"room for one", 1, turns(turn(4, 3, 1), turn(1, 2, 9)), rows(row(4, 3, 2, 1, 1), row(5, 5, 3, 2, 3))},

		{"served in the turn in which it came", 9, turns(turn(4, 4, 0)), rows(row(4, 4, 0, 4, 0))},
		{"a token less", 9, turns(turn(3, 4, 0)), rows(row(3, 4, 0, 3, 0))},
		{"a token more", 9, turns(turn(5, 4, 0)), rows(row(5, 4, 0, 4, 0))},
		{"by tokens of the turn behind", 9, turns(turn(0, 4, 0), turn(4, 0, 0)), rows(row(0, 4, 0, 0, 0), row(4, 4, 0, 4, 0))},
		{"a token less then", 9, turns(turn(1, 4, 0), turn(2, 0, 0)), rows(row(1, 4, 0, 1, 0), row(3, 4, 0, 3, 0))},
		{"a token more then", 9, turns(turn(1, 4, 0), turn(4, 0, 0)), rows(row(1, 4, 0, 1, 0), row(5, 4, 0, 4, 0))},
		{"by tokens that stayed", 9, turns(turn(2, 0, 0), turn(0, 0, 0), turn(1, 4, 0), turn(0, 2, 0)), rows(row(2, 0, 0, 0, 0), row(2, 0, 0, 0, 0), row(3, 4, 0, 3, 0), row(3, 6, 0, 3, 0))},
		{"a token that stayed behind bytes", 9, turns(turn(5, 4, 0), turn(0, 2, 0), turn(1, 0, 0)), rows(row(5, 4, 0, 4, 0), row(5, 6, 0, 5, 0), row(6, 6, 0, 6, 0))},

		{"fewer tokens are wasted than there are", 9, turns(turn(5, 0, 4)), rows(row(5, 0, 0, 0, 4))},
		{"all are", 9, turns(turn(5, 0, 5)), rows(row(5, 0, 0, 0, 5))},
		{"more are wanted", 9, turns(turn(5, 0, 6)), rows(row(5, 0, 0, 0, 5))},
		{"what is wasted serves nothing", 9, turns(turn(5, 0, 3), turn(0, 4, 0)), rows(row(5, 0, 0, 0, 3), row(5, 4, 0, 2, 3))},
		{"what is left of those that serve", 9, turns(turn(5, 3, 9)), rows(row(5, 3, 0, 3, 2))},
		{"a part of these", 9, turns(turn(5, 3, 1), turn(0, 0, 9)), rows(row(5, 3, 0, 3, 1), row(5, 3, 0, 3, 2))},
		{"none is left", 9, turns(turn(3, 3, 9), turn(0, 0, 9)), rows(row(3, 3, 0, 3, 0), row(3, 3, 0, 3, 0))},
		{"nothing is wasted beside bytes", 9, turns(turn(3, 4, 9), turn(0, 0, 9), turn(9, 0, 2)), rows(row(3, 4, 0, 3, 0), row(3, 4, 0, 3, 0), row(12, 4, 0, 4, 2))},
		{"tokens that stayed are wasted", 9, turns(turn(3, 0, 0), turn(3, 0, 1), turn(0, 0, 4)), rows(row(3, 0, 0, 0, 0), row(6, 0, 0, 0, 1), row(6, 0, 0, 0, 5))},
		{"those that come for bytes are, too, if these are dropped", 0, turns(turn(3, 4, 2)), rows(row(3, 4, 4, 0, 2))},

		{"all of it", 12, turns(turn(5, 20, 0), turn(4, 2, 9), turn(30, 0, 9)), rows(row(5, 20, 8, 5, 0), row(9, 22, 8, 9, 0), row(39, 22, 8, 14, 9))},
	} {
		if got := runs(t, x.room, x.turns); !slices.Equal(got, x.rows) {
			t.Errorf("%s: Run: %v, not %v", x.name, got, x.rows)
		}
		if got := fluid(x.room, x.turns); !slices.Equal(got, x.rows) {
			t.Errorf("%s: fluid: %v, not %v", x.name, got, x.rows)
		}
		if got := bytewise(x.room, x.turns); !slices.Equal(got, x.rows) {
			t.Errorf("%s: bytewise: %v, not %v", x.name, got, x.rows)
		}
		checks(t, x.room, x.rows, 0, meter.Fine)
	}
}

// P22.1 (W1: Run): a room of 0, and up to 2^56, and not one more, with turns and without.
func TestRoom(t *testing.T) {
	for _, room := range []uint64{0, 1, 2, step, widest - 1, widest} {
		for _, l := range [][]meter.Turn{nil, {}, {turn(0, 0, 0)}, {turn(3, 5, 7), turn(1, 9, 0)}} {
			if got, want := runs(t, room, l), fluid(room, l); !slices.Equal(got, want) {
				t.Errorf("room %d, %v: %v, not %v", room, l, got, want)
			}
		}
	}
	for _, room := range []uint64{widest + 1, 2 * widest, 1 << 63, greatest} {
		for _, l := range [][]meter.Turn{nil, {}, {turn(0, 0, 0)}, {turn(3, 5, 7), turn(1, 9, 0)}, {turn(greatest, 0, 0)}} {
			if got, err := meter.Run(room, l...); err != api.ErrArg || len(got) != 0 {
				t.Errorf("room %d, %v: %v, %d", room, l, got, err)
			}
		}
	}
}

// P22.1 (W1: Run; DOC.md, rule 2): each number of a turn is from 0 up to 2^40, in the first turn, in the last one, and in one between; with one more ErrArg, and no curves.
func TestTurnNumbers(t *testing.T) {
	for _, n := range []int{1, 2, 3, 9, 100} {
		l := slices.Repeat(turns(turn(5, 3, 1)), n)
		for _, at := range []int{0, n / 2, n - 1} {
			for _, x := range []uint64{0, 1, step - 1, step, step + 1, 2 * step, 1 << 63, greatest} {
				for _, edge := range turns(turn(x, 3, 1), turn(5, x, 1), turn(5, 3, x), turn(x, x, 1), turn(5, x, x), turn(x, 3, x), turn(x, x, x)) {
					old := l[at]
					l[at] = edge
					got, err := meter.Run(100, l...)
					switch {
					case x > step && (err != api.ErrArg || len(got) != 0):
						t.Errorf("turn %d of %d is %v: %d curves, %d", at, n, edge, len(got), err)
					case x <= step && (err != api.OK || !slices.Equal(got, fluid(100, l))):
						t.Errorf("turn %d of %d is %v: at last %v, %d", at, n, edge, tail(got), err)
					}
					l[at] = old
				}
			}
		}
	}
}

// P22.1 (W1: Run): as many turns as 65536, and not one more; sums of 2^40 each up to 2^56.
func TestManyTurns(t *testing.T) {
	for _, x := range []struct {
		room uint64
		turn meter.Turn
		last meter.Row
	}{
		{0, turn(0, 0, 0), row(0, 0, 0, 0, 0)},
		{9, turn(2, 1, 1), row(2*many, many, 0, many, many)},
		{9, turn(1, 2, 1), row(many, 2*many, many-8, many, 0)},
		{widest, turn(0, step, 0), row(0, widest, 0, 0, 0)},                              // a queue that is just full
		{widest - 1, turn(0, step, 0), row(0, widest, 1, 0, 0)},                          // a byte is dropped
		{step, turn(0, step, step), row(0, widest, widest-step, 0, 0)},                   // all but the first ones are
		{0, turn(step, step, step), row(widest, widest, widest, 0, widest)},              // all are, and wasted
		{0, turn(step, step, 0), row(widest, widest, widest, 0, 0)},                      // all are
		{step, turn(step, step, step), row(widest, widest, 0, widest, 0)},                // all are served
		{step - 1, turn(step, step, step), row(widest, widest, many, widest-many, many)}, // a byte of each turn is dropped
		{widest, turn(step-1, step, step), row(widest-many, widest, 0, widest-many, 0)},  // a byte of each turn waits
	} {
		l := slices.Repeat(turns(x.turn), many)
		got := runs(t, x.room, l)
		if len(got) != many || got[many-1] != x.last {
			t.Errorf("room %d, %v: %d curves, at last %v, not %v", x.room, x.turn, len(got), tail(got), x.last)
		}
		if want := fluid(x.room, l); !slices.Equal(got, want) {
			t.Errorf("room %d, %v: at last %v, not %v", x.room, x.turn, tail(got), tail(want))
		}
		checks(t, x.room, got, 0, meter.Fine)
		if back := meter.Turns(got...); !slices.Equal(back, turned(got)) {
			t.Errorf("room %d, %v: their turns at last %v", x.room, x.turn, tail(back))
		}
		for _, n := range []int{1, 2, many} {
			if got, err := meter.Run(x.room, slices.Repeat(l, 2)[:many+n]...); err != api.ErrArg || len(got) != 0 {
				t.Errorf("room %d, %v, %d turns: %d curves, %d", x.room, x.turn, many+n, len(got), err)
			}
		}
		if got := runs(t, x.room, l[:many-1]); len(got) != many-1 {
			t.Errorf("room %d, %v: %d curves of one less", x.room, x.turn, len(got))
		}
		for _, at := range []int{0, many / 2, many - 1} {
			for _, edge := range turns(turn(step+1, 0, 0), turn(0, step+1, 0), turn(0, 0, step+1)) {
				l[at] = edge
				if got, err := meter.Run(x.room, l...); err != api.ErrArg || len(got) != 0 {
					t.Errorf("room %d, %v, turn %d is %v: %d curves, %d", x.room, x.turn, at, edge, len(got), err)
				}
				l[at] = x.turn
			}
		}
	}
}

// P22.1 (W1: Run), P1: all turns of small numbers, and mixed ones of eleven scales, against plain links.
func TestAnyTurns(t *testing.T) {
	for room := range uint64(5) {
		each(3, smallTurns(2), func(l []meter.Turn) {
			if got, want := runs(t, room, l), bytewise(room, l); !slices.Equal(got, want) {
				t.Fatalf("room %d, %v: %v, not %v", room, l, got, want)
			}
		})
		each(2, smallTurns(4), func(l []meter.Turn) {
			if got, want := runs(t, room, l), bytewise(room, l); !slices.Equal(got, want) {
				t.Fatalf("room %d, %v: %v, not %v", room, l, got, want)
			}
		})
	}
	for i, s := range scales() {
		for n := range 60 {
			m := mixer(1000*i + n)
			room, l := mixed(150, &m, s)
			if got, want := runs(t, room, l), fluid(room, l); !slices.Equal(got, want) {
				t.Fatalf("room %d, %v: %v, not %v", room, tail(l), tail(got), tail(want))
			}
		}
	}
}

// fullAhead is a row behind which 7 bytes are in a queue of 12, and no tokens are there.
var fullAhead = row(5, 20, 8, 5, 0)

// idleAhead is one behind which nothing is in the queue, and 3 tokens are there; in a room of 12, too.
var idleAhead = row(12, 6, 0, 6, 3)

// P22.1 (W1: Check; Words): each clause by itself, at its edge and one off it, in the first row, and behind one.
func TestClauses(t *testing.T) {
	for _, x := range []struct {
		room  uint64
		ahead meter.Row
		row   meter.Row
		is    meter.Clause
	}{
		// nothing comes, is served, or wasted: the row ahead again
		{12, meter.Row{}, meter.Row{}, meter.Fine},
		{12, fullAhead, fullAhead, meter.Fine},
		{12, idleAhead, idleAhead, meter.Fine},

		// falls: one less of each
		{12, fullAhead, row(4, 20, 8, 5, 0), meter.Falls},
		{12, fullAhead, row(5, 19, 8, 5, 0), meter.Falls},
		{12, fullAhead, row(5, 20, 7, 5, 0), meter.Falls},
		{12, fullAhead, row(5, 20, 8, 4, 0), meter.Falls},
		{12, idleAhead, row(12, 6, 0, 6, 2), meter.Falls},
		{12, idleAhead, row(0, 6, 0, 6, 3), meter.Falls},
		{12, idleAhead, meter.Row{}, meter.Falls},
		// falls: 2^40 more, and one above that
		{12, meter.Row{}, row(step, 0, 0, 0, 0), meter.Fine},
		{12, meter.Row{}, row(step+1, 0, 0, 0, 0), meter.Falls},
		{12, idleAhead, row(12+step, 6, 0, 6, 3), meter.Fine},
		{12, idleAhead, row(13+step, 6, 0, 6, 3), meter.Falls},
		{12, idleAhead, row(greatest, 6, 0, 6, 3), meter.Falls},
		{step, meter.Row{}, row(0, step, 0, 0, 0), meter.Fine},
		{step + 1, meter.Row{}, row(0, step+1, 0, 0, 0), meter.Falls},
		{step, row(6, 6, 0, 6, 0), row(6, 6+step, 0, 6, 0), meter.Fine},
		{step + 1, row(6, 6, 0, 6, 0), row(6, 7+step, 0, 6, 0), meter.Falls},
		{widest, row(6, 6, 0, 6, 0), row(6, greatest, 0, 6, 0), meter.Falls},
		{0, meter.Row{}, row(0, step, step, 0, 0), meter.Fine},
		{0, meter.Row{}, row(0, step+1, step+1, 0, 0), meter.Falls},
		{0, row(0, 4, 4, 0, 0), row(0, 4+step, 4+step, 0, 0), meter.Fine},
		{0, row(0, 4, 4, 0, 0), row(0, 5+step, 5+step, 0, 0), meter.Falls},
		{0, row(0, 4, 4, 0, 0), row(0, greatest, greatest, 0, 0), meter.Falls},
		{step, meter.Row{}, row(step, step, 0, step, 0), meter.Fine},
		{step + 1, row(9, 9, 0, 9, 0), row(9+step, 9+step, 0, 9+step, 0), meter.Fine},
		{step + 1, row(0, 1, 0, 0, 0), row(step, step+1, 0, step, 0), meter.Fine},
		{12, meter.Row{}, row(step, 0, 0, 0, step), meter.Fine},
		{12, row(5, 0, 0, 0, 1), row(5+step, 0, 0, 0, 1+step), meter.Fine},
		{12, row(5, 0, 0, 0, 1), row(5+step, 0, 0, 0, 2+step), meter.Falls},
		{12, row(5, 0, 0, 0, 1), row(5+step, 0, 0, 0, greatest), meter.Falls},

		// room: the bytes below 0, 0, of just the room, and of one more
		{0, meter.Row{}, row(0, 0, 1, 0, 0), meter.Room},
		{12, meter.Row{}, row(0, 0, 1, 0, 0), meter.Room},
		{12, meter.Row{}, row(0, 3, 4, 0, 0), meter.Room},
		{12, idleAhead, row(12, 6, 1, 6, 3), meter.Room},
		{12, idleAhead, row(12, 9, 4, 6, 3), meter.Room},
		{12, idleAhead, row(12, 7, 0, 7, 3), meter.Fine},
		{12, meter.Row{}, row(0, 12, 0, 0, 0), meter.Fine},
		{12, meter.Row{}, row(0, 13, 0, 0, 0), meter.Room},
		{12, meter.Row{}, row(0, 13, 1, 0, 0), meter.Fine},
		{12, meter.Row{}, row(0, 14, 1, 0, 0), meter.Room},
		{12, meter.Row{}, row(13, 13, 0, 13, 0), meter.Room}, // what is served in its own turn does not count
		{12, fullAhead, row(5, 25, 8, 5, 0), meter.Fine},
		{12, fullAhead, row(5, 26, 8, 5, 0), meter.Room},
		{12, fullAhead, row(5, 26, 9, 5, 0), meter.Fine},
		{12, fullAhead, row(11, 26, 8, 11, 0), meter.Room},
		{12, fullAhead, row(10, 25, 8, 10, 0), meter.Fine},
		{0, meter.Row{}, row(1, 1, 0, 1, 0), meter.Room},
		{0, meter.Row{}, row(1, 1, 1, 0, 0), meter.Fine},
		{1, meter.Row{}, row(1, 1, 0, 1, 0), meter.Fine},
		{1, meter.Row{}, row(2, 2, 0, 2, 0), meter.Room},
		{step - 1, meter.Row{}, row(step, step, 0, step, 0), meter.Room},
		{step - 1, meter.Row{}, row(step, step, 1, step-1, 0), meter.Fine},

		// drop: with room for one more, and for none; without one more that is dropped
		{12, meter.Row{}, row(0, 12, 1, 0, 0), meter.Drop},
		{12, meter.Row{}, row(0, 1, 1, 0, 0), meter.Drop},
		{1, meter.Row{}, row(0, 1, 1, 0, 0), meter.Drop},
		{12, fullAhead, row(5, 25, 9, 5, 0), meter.Drop},
		{12, fullAhead, row(5, 21, 9, 5, 0), meter.Drop},
		{12, fullAhead, row(5, 24, 8, 5, 0), meter.Fine}, // it was dropped ahead
		{12, fullAhead, row(5, 27, 10, 5, 0), meter.Fine},
		{12, fullAhead, row(5, 27, 11, 5, 0), meter.Drop},
		{12, fullAhead, row(5, 20, 9, 5, 0), meter.Drop}, // none came
		{12, idleAhead, row(12, 7, 1, 6, 3), meter.Drop}, // 0 bytes
		{12, idleAhead, row(21, 19, 1, 18, 3), meter.Fine},

		// serve: more than came, and was not dropped; more than the tokens, by bytes, by waste, by both
		{12, meter.Row{}, row(9, 3, 0, 3, 0), meter.Fine},
		{12, meter.Row{}, row(9, 3, 0, 4, 0), meter.Serve},
		{12, meter.Row{}, row(9, 3, 0, 9, 0), meter.Serve},
		{12, fullAhead, row(20, 20, 8, 12, 0), meter.Fine},
		{12, fullAhead, row(20, 20, 8, 13, 0), meter.Serve},
		{12, fullAhead, row(20, 20, 8, 20, 0), meter.Serve}, // what was dropped
		{12, fullAhead, row(6, 20, 8, 6, 0), meter.Fine},
		{12, fullAhead, row(6, 20, 8, 7, 0), meter.Serve},
		{12, fullAhead, row(11, 20, 8, 12, 0), meter.Serve},
		{12, idleAhead, row(12, 9, 0, 9, 3), meter.Fine},
		{12, idleAhead, row(12, 9, 0, 9, 4), meter.Serve},
		{12, idleAhead, row(12, 10, 0, 10, 3), meter.Serve},
		{12, idleAhead, row(12, 8, 0, 8, 4), meter.Fine},
		{12, idleAhead, row(12, 6, 0, 6, 6), meter.Fine},
		{12, idleAhead, row(12, 6, 0, 6, 7), meter.Serve},
		{12, meter.Row{}, row(0, 0, 0, 0, 1), meter.Serve},
		{12, meter.Row{}, row(0, 1, 0, 1, 0), meter.Serve},

		// idle: not all is served, with a token left, and with none; and with waste
		{12, meter.Row{}, row(1, 1, 0, 0, 0), meter.Idle},
		{12, meter.Row{}, row(0, 1, 0, 0, 0), meter.Fine},
		{12, meter.Row{}, row(1, 1, 0, 1, 0), meter.Fine},
		{12, meter.Row{}, row(2, 1, 0, 1, 0), meter.Fine},
		{12, meter.Row{}, row(1, 1, 0, 0, 1), meter.Idle},
		{12, fullAhead, row(6, 20, 8, 5, 0), meter.Idle},
		{12, fullAhead, row(20, 20, 8, 11, 0), meter.Idle},
		{12, fullAhead, row(11, 20, 8, 11, 0), meter.Fine},
		{12, fullAhead, row(12, 20, 8, 11, 0), meter.Idle},
		{12, fullAhead, row(12, 20, 8, 11, 1), meter.Idle},
		{12, fullAhead, row(12, 20, 8, 12, 0), meter.Fine},
		{12, fullAhead, row(13, 20, 8, 12, 1), meter.Fine},
		{12, idleAhead, row(12, 9, 0, 8, 3), meter.Idle},
		{12, idleAhead, row(12, 10, 0, 8, 3), meter.Idle},
		{12, idleAhead, row(12, 10, 0, 9, 3), meter.Fine}, // what was wasted ahead does not count
		{12, idleAhead, row(13, 10, 0, 9, 4), meter.Idle}, // waste beside bytes
		{12, idleAhead, row(13, 10, 0, 10, 3), meter.Fine},
		{12, idleAhead, row(14, 10, 0, 10, 4), meter.Fine},
		{12, row(5, 0, 0, 0, 5), row(5, 1, 0, 0, 5), meter.Fine},
		{12, row(5, 0, 0, 0, 4), row(5, 1, 0, 0, 5), meter.Idle},
	} {
		l := rowsTo(x.ahead)
		checks(t, x.room, l, 0, meter.Fine)
		at := len(l)
		if x.is == meter.Fine {
			at = 0
		}
		checks(t, x.room, append(l, x.row), at, x.is)
	}
}

// rowsTo is rows in the envelope, with a row as the last one; none lead to that ahead of the first one.
func rowsTo(r meter.Row) []meter.Row {
	switch r {
	case meter.Row{}:
		return nil
	case fullAhead:
		return rows(row(0, 4, 0, 0, 0), r)
	case idleAhead:
		return rows(row(7, 4, 0, 4, 0), r)
	}
	return rows(r)
}

// P22.1 (W1: Check): the numbers of rows go up to the greatest one: whatever would wrap round is told as what it is.
func TestGreatNumbers(t *testing.T) {
	values := []uint64{0, 1, 12, step, step + 1, widest, 1 << 63, greatest - 5, greatest - 1, greatest}
	each(5, values, func(x []uint64) {
		r := row(x[0], x[1], x[2], x[3], x[4])
		for _, room := range []uint64{0, 12, widest} {
			if i, c := meter.Check(room, r); i != 0 || slices.Max(x) > step && c != meter.Falls {
				t.Fatalf("room %d, %v: %d, %d", room, r, i, c)
			}
			kept(t, room, rows(r))
			kept(t, room, rows(fullAhead, r))
			kept(t, room, rows(idleAhead, r))
		}
	})
	for _, r := range []meter.Row{row(greatest, 0, 0, 0, 0), row(0, greatest, 0, 0, 0), row(0, 0, greatest, 0, 0), row(0, 0, 0, greatest, 0), row(0, 0, 0, 0, greatest), row(greatest, greatest, greatest, greatest, greatest)} {
		checks(t, 12, rows(r), 0, meter.Falls)
		checks(t, 12, rows(idleAhead, r), 1, meter.Falls)
		checks(t, widest, rows(idleAhead, r), 1, meter.Falls)
		checks(t, 12, rows(idleAhead, r, r), 1, meter.Falls)
	}
}

// P22.1 (W1: Check): where several clauses are so for a row, the first of them is told: here of each two of them that can be, and of more.
func TestFirstClause(t *testing.T) {
	for _, x := range []struct {
		row meter.Row
		so  []meter.Clause
	}{
		{row(12, 9, 0, 8, 4), []meter.Clause{meter.Idle}},
		{row(9, 6, 0, 6, 4), []meter.Clause{meter.Falls, meter.Serve}},
		{row(12, 8, 1, 7, 2), []meter.Clause{meter.Falls, meter.Drop}},
		{row(12, 7, 0, 6, 2), []meter.Clause{meter.Falls, meter.Idle}},
		{row(24, 19, 0, 19, 2), []meter.Clause{meter.Falls, meter.Room}},
		{row(20, 19, 0, 19, 2), []meter.Clause{meter.Falls, meter.Room, meter.Serve}},
		{row(12, 19, 0, 9, 2), []meter.Clause{meter.Falls, meter.Room, meter.Idle}},
		{row(12, 6, 1, 5, 3), []meter.Clause{meter.Falls, meter.Room, meter.Drop}},
		{row(11, 7, 3, 1, 9), []meter.Clause{meter.Falls, meter.Room, meter.Drop, meter.Idle}},
		{row(11, 18, 1, 9, 4), []meter.Clause{meter.Falls, meter.Drop, meter.Serve, meter.Idle}},
		{row(12, 7, 3, 1, 20), []meter.Clause{meter.Falls, meter.Room, meter.Drop, meter.Serve, meter.Idle}},
		{row(12, 6, 1, 6, 3), []meter.Clause{meter.Room, meter.Drop, meter.Serve}},
		{row(12, 19, 0, 19, 3), []meter.Clause{meter.Room, meter.Serve}},
		{row(12, 19, 0, 10, 3), []meter.Clause{meter.Room, meter.Serve}},
		{row(12, 19, 0, 8, 3), []meter.Clause{meter.Room, meter.Idle}},
		{row(12, 19, 0, 8, 5), []meter.Clause{meter.Room, meter.Serve, meter.Idle}},
		{row(12, 8, 1, 8, 3), []meter.Clause{meter.Drop, meter.Serve}},
		{row(12, 8, 1, 6, 3), []meter.Clause{meter.Drop, meter.Idle}},
		{row(12, 9, 1, 7, 6), []meter.Clause{meter.Drop, meter.Serve, meter.Idle}},
		{row(12, 9, 0, 8, 5), []meter.Clause{meter.Serve, meter.Idle}},
	} {
		if so := clauses(12, idleAhead, x.row); !slices.Equal(so, x.so) {
			t.Errorf("%v: %v are so, not %v", x.row, so, x.so)
		}
		l := append(rowsTo(idleAhead), x.row)
		checks(t, 12, l, len(l)-1, x.so[0])
	}
}

// P22.1 (W1: Check): where something is so for several rows, the first of them is told; those behind it are not looked at, those ahead of it are.
func TestFirstRow(t *testing.T) {
	bad := []struct {
		row meter.Row
		is  meter.Clause
	}{
		{row(11, 6, 0, 6, 3), meter.Falls},
		{row(24, 19, 0, 19, 3), meter.Room},
		{row(12, 7, 1, 6, 3), meter.Drop},
		{row(12, 6, 0, 6, 7), meter.Serve},
		{row(12, 9, 0, 8, 3), meter.Idle},
	}
	for _, n := range []int{4, 10, 1000} {
		l := slices.Repeat(rows(idleAhead), n)
		l[0] = row(7, 4, 0, 4, 0)
		checks(t, 12, l, 0, meter.Fine)
		for _, at := range []int{2, n / 2, n - 2, n - 1} {
			for _, x := range bad {
				l[at] = x.row
				checks(t, 12, l, at, x.is)
				for _, y := range bad {
					l[n-1], l[at] = y.row, x.row
					checks(t, 12, l, at, x.is)
				}
				l[n-1], l[at] = idleAhead, idleAhead
			}
		}
	}
	l := slices.Repeat(rows(idleAhead), many)
	l[0] = row(7, 4, 0, 4, 0)
	for _, x := range bad {
		l[many-1] = x.row
		checks(t, 12, l, many-1, x.is)
	}
	for _, x := range []struct {
		row meter.Row
		is  meter.Clause
	}{
		{row(step+1, 0, 0, 0, 0), meter.Falls},
		{row(13, 13, 0, 13, 0), meter.Room},
		{row(0, 1, 1, 0, 0), meter.Drop},
		{row(0, 1, 0, 1, 0), meter.Serve},
		{row(1, 1, 0, 0, 0), meter.Idle},
	} {
		checks(t, 12, rows(x.row), 0, x.is)
		checks(t, 12, rows(x.row, idleAhead), 0, x.is)
		checks(t, 12, rows(x.row, bad[0].row, bad[1].row), 0, x.is)
	}
}

// P22.1 (W1: Check): more than 65536 rows, or a room above 2^56: 0 and Falls, whatever the rows are.
func TestTooMuch(t *testing.T) {
	still := make([]meter.Row, many+2)
	checks(t, 12, still[:many], 0, meter.Fine)
	checks(t, 12, still[:many+1], 0, meter.Falls)
	checks(t, 12, still, 0, meter.Falls)
	later := slices.Clone(still)
	later[3] = row(13, 13, 0, 13, 0)
	checks(t, 12, later[:many], 3, meter.Room)
	checks(t, 12, later[:many+1], 0, meter.Falls)
	later[0] = row(1, 1, 0, 0, 0)
	checks(t, 12, later[:many], 0, meter.Idle)
	checks(t, 12, later[:many+1], 0, meter.Falls)
	for _, l := range [][]meter.Row{nil, {}, rows(meter.Row{}), rows(fullAhead), rows(row(5, 0, 0, 0, 0), row(1, 1, 1, 1, 1)), rows(row(1, 1, 0, 0, 0))} {
		for _, room := range []uint64{widest + 1, 2 * widest, 1 << 63, greatest} {
			checks(t, room, l, 0, meter.Falls)
		}
	}
	for _, room := range []uint64{0, 1, widest - 1, widest} {
		checks(t, room, nil, 0, meter.Fine)
		checks(t, room, rows(), 0, meter.Fine)
		checks(t, room, rows(meter.Row{}), 0, meter.Fine)
	}
	checks(t, widest, rows(row(0, step, 0, 0, 0)), 0, meter.Fine)
}

// P22.1 (W1: Turns): of each row what it is more than the one ahead, and 0, if it is less; of any number of rows.
func TestTurns(t *testing.T) {
	for _, x := range []struct {
		rows  []meter.Row
		turns []meter.Turn
	}{
		{nil, nil},
		{rows(), nil},
		{rows(meter.Row{}), turns(turn(0, 0, 0))},
		{rows(row(5, 6, 7, 8, 9)), turns(turn(5, 6, 9))},
		{rows(row(5, 6, 7, 8, 9), row(5, 6, 7, 8, 9)), turns(turn(5, 6, 9), turn(0, 0, 0))},
		{rows(row(5, 6, 7, 8, 9), row(6, 8, 0, 0, 12)), turns(turn(5, 6, 9), turn(1, 2, 3))},
		{rows(row(5, 6, 7, 8, 9), row(4, 8, 7, 8, 12)), turns(turn(5, 6, 9), turn(0, 2, 3))}, // Gain falls
		{rows(row(5, 6, 7, 8, 9), row(6, 5, 7, 8, 12)), turns(turn(5, 6, 9), turn(1, 0, 3))}, // Came falls
		{rows(row(5, 6, 7, 8, 9), row(6, 8, 7, 8, 8)), turns(turn(5, 6, 9), turn(1, 2, 0))},  // Wasted falls
		{rows(row(5, 6, 7, 8, 9), meter.Row{}, row(5, 6, 7, 8, 9)), turns(turn(5, 6, 9), turn(0, 0, 0), turn(5, 6, 9))},
		{rows(row(9, 9, 0, 0, 9), row(3, 2, 0, 0, 1), row(4, 4, 0, 0, 4)), turns(turn(9, 9, 9), turn(0, 0, 0), turn(1, 2, 3))}, // than the one ahead, not than the greatest
		{rows(row(greatest, greatest, greatest, greatest, greatest)), turns(turn(greatest, greatest, greatest))},
		{rows(row(1, 2, 3, 4, 5), row(greatest, greatest, 0, 0, greatest), row(0, 1, 0, 0, 0)), turns(turn(1, 2, 5), turn(greatest-1, greatest-2, greatest-5), turn(0, 0, 0))},
		{rows(row(0, 0, greatest, greatest, 0), row(1, 0, 0, 0, 0)), turns(turn(0, 0, 0), turn(1, 0, 0))},
		{rows(row(5, 20, 8, 5, 0), row(9, 22, 8, 9, 0), row(39, 22, 8, 14, 9)), turns(turn(5, 20, 0), turn(4, 2, 0), turn(30, 0, 9))},
	} {
		if got := meter.Turns(x.rows...); !slices.Equal(got, x.turns) {
			t.Errorf("Turns of %v: %v, not %v", x.rows, got, x.turns)
		}
		if got := turned(x.rows); !slices.Equal(got, x.turns) {
			t.Errorf("turned of %v: %v, not %v", x.rows, got, x.turns)
		}
	}
	for _, n := range []int{many - 1, many, many + 1, 100000} {
		var l []meter.Row
		m := mixer(n)
		for i := range n {
			l = append(l, row(uint64(3*i), m.turn(), m.turn(), m.turn(), uint64(n-i)))
		}
		if got := meter.Turns(l...); !slices.Equal(got, turned(l)) || len(got) != n {
			t.Errorf("%d rows: %d turns, at last %v", n, len(got), tail(got))
		}
	}
}
