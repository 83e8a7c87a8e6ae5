package meter_test

import (
	"math"
	"math/big"
	"slices"
	"testing"

	"goit/api"
	"goit/meter"
)

const (
	greatest = math.MaxUint64 // the greatest number
	step     = 1 << 40        // a turn's number at most, and how much a row's may be more than ahead
	many     = 1 << 16        // turns, or rows, at most
	widest   = 1 << 56        // a room at most
)

func turn(gain, come, waste uint64) meter.Turn {
	return meter.Turn{Gain: gain, Come: come, Waste: waste}
}

func row(gain, came, dropped, served, wasted uint64) meter.Row {
	return meter.Row{Gain: gain, Came: came, Dropped: dropped, Served: served, Wasted: wasted}
}

func turns(l ...meter.Turn) []meter.Turn { return l }

func rows(l ...meter.Row) []meter.Row { return l }

// numbers are the five of a row, which can be changed there.
func numbers(r *meter.Row) []*uint64 {
	return []*uint64{&r.Gain, &r.Came, &r.Dropped, &r.Served, &r.Wasted}
}

func large(x uint64) *big.Int { return new(big.Int).SetUint64(x) }

func sum(a, b *big.Int) *big.Int { return new(big.Int).Add(a, b) }

func difference(a, b *big.Int) *big.Int { return new(big.Int).Sub(a, b) }

func least(a, b *big.Int) *big.Int {
	if b.Cmp(a) < 0 {
		return b
	}
	return a
}

// totals are numbers without a bound, in the order of a row's.
type totals struct{ gain, came, dropped, served, wasted *big.Int }

func whole(r meter.Row) totals {
	return totals{large(r.Gain), large(r.Came), large(r.Dropped), large(r.Served), large(r.Wasted)}
}

func (x totals) list() []*big.Int {
	return []*big.Int{x.gain, x.came, x.dropped, x.served, x.wasted}
}

func (x totals) row() meter.Row {
	return row(x.gain.Uint64(), x.came.Uint64(), x.dropped.Uint64(), x.served.Uint64(), x.wasted.Uint64())
}

// fluid is the curves of a fluid link as the words say it, in numbers without a bound.
func fluid(room uint64, l []meter.Turn) []meter.Row {
	var told []meter.Row
	queue, tokens, x := new(big.Int), new(big.Int), whole(meter.Row{})
	for _, t := range l {
		tokens = sum(tokens, large(t.Gain))
		x.gain = sum(x.gain, large(t.Gain))
		fits := least(large(t.Come), difference(large(room), queue))
		queue = sum(queue, fits)
		x.came = sum(x.came, large(t.Come))
		x.dropped = sum(x.dropped, difference(large(t.Come), fits))
		goes := least(queue, tokens)
		queue, tokens = difference(queue, goes), difference(tokens, goes)
		x.served = sum(x.served, goes)
		if queue.Sign() == 0 {
			gone := least(large(t.Waste), tokens)
			tokens = difference(tokens, gone)
			x.wasted = sum(x.wasted, gone)
		}
		told = append(told, x.row())
	}
	return told
}

// bytewise is the curves of a fluid link whose bytes, and tokens, come, and go, one by one.
func bytewise(room uint64, l []meter.Turn) []meter.Row {
	var told []meter.Row
	var queue, tokens []bool
	r := meter.Row{}
	for _, t := range l {
		for range t.Gain {
			tokens = append(tokens, true)
			r.Gain++
		}
		for range t.Come {
			r.Came++
			if uint64(len(queue)) == room {
				r.Dropped++
				continue
			}
			queue = append(queue, true)
		}
		for len(queue) > 0 && len(tokens) > 0 {
			queue, tokens = queue[1:], tokens[1:]
			r.Served++
		}
		for wanted := t.Waste; wanted > 0 && len(queue) == 0 && len(tokens) > 0; wanted-- {
			tokens = tokens[1:]
			r.Wasted++
		}
		told = append(told, r)
	}
	return told
}

// clauses are those that are so for a row, each looked at by itself, in numbers without a bound.
func clauses(room uint64, ahead, r meter.Row) []meter.Clause {
	var l []meter.Clause
	note := func(so bool, c meter.Clause) {
		if so {
			l = append(l, c)
		}
	}
	x, old, most := whole(r), whole(ahead), large(step)
	falls := false
	for i, n := range x.list() {
		rise := difference(n, old.list()[i])
		falls = falls || rise.Sign() < 0 || rise.Cmp(most) > 0
	}
	note(falls, meter.Falls)
	kept := difference(x.came, x.dropped)
	filled := difference(kept, old.served)
	used := sum(x.served, x.wasted)
	note(filled.Sign() < 0 || filled.Cmp(large(room)) > 0, meter.Room)
	note(r.Dropped > ahead.Dropped && filled.Cmp(large(room)) < 0, meter.Drop)
	note(x.served.Cmp(kept) > 0 || used.Cmp(x.gain) > 0, meter.Serve)
	note(x.served.Cmp(kept) < 0 && (used.Cmp(x.gain) < 0 || r.Wasted > ahead.Wasted), meter.Idle)
	return l
}

// checked is the first row for which a clause is so, and the first one that is.
func checked(room uint64, l []meter.Row) (int, meter.Clause) {
	if room > widest || len(l) > many {
		return 0, meter.Falls
	}
	ahead := meter.Row{}
	for i, r := range l {
		if so := clauses(room, ahead, r); len(so) > 0 {
			return i, so[0]
		}
		ahead = r
	}
	return 0, meter.Fine
}

// turned is the turns of rows, in numbers without a bound.
func turned(l []meter.Row) []meter.Turn {
	var told []meter.Turn
	ahead := whole(meter.Row{})
	more := func(x, ahead *big.Int) uint64 {
		if d := difference(x, ahead); d.Sign() > 0 {
			return d.Uint64()
		}
		return 0
	}
	for _, r := range l {
		x := whole(r)
		told = append(told, turn(more(x.gain, ahead.gain), more(x.came, ahead.came), more(x.wasted, ahead.wasted)))
		ahead = x
	}
	return told
}

// runs is the curves of turns, which must be told.
func runs(t *testing.T, room uint64, l []meter.Turn) []meter.Row {
	t.Helper()
	told, err := meter.Run(room, l...)
	if err != api.OK {
		t.Fatalf("Run: room %d, %v: %d", room, tail(l), err)
	}
	return told
}

// checks holds what Check tells of rows against a row and a clause; a plain look at them is held against these as well.
func checks(t *testing.T, room uint64, l []meter.Row, at int, c meter.Clause) {
	t.Helper()
	if i, got := meter.Check(room, l...); i != at || got != c {
		t.Errorf("Check: room %d, %v: %d, %d, not %d, %d", room, tail(l), i, got, at, c)
	}
	if i, got := checked(room, l); i != at || got != c {
		t.Errorf("checked: room %d, %v: %d, %d, not %d, %d", room, tail(l), i, got, at, c)
	}
}

// kept holds rows against P22.2: if they are in the envelope, they are the curves of their turns.
func kept(t *testing.T, room uint64, l []meter.Row) bool {
	t.Helper()
	i, c := meter.Check(room, l...)
	if at, want := checked(room, l); i != at || c != want {
		t.Fatalf("Check: room %d, %v: %d, %d, not %d, %d", room, tail(l), i, c, at, want)
	}
	if c != meter.Fine {
		return false
	}
	if again := runs(t, room, meter.Turns(l...)); !slices.Equal(again, l) {
		t.Fatalf("room %d: %v are in the envelope, but of their turns the curves are %v", room, tail(l), tail(again))
	}
	return true
}

// tail is the last ones of a list, for telling.
func tail[T any](l []T) []T { return l[max(0, len(l)-6):] }

// each calls f with all lists of n of some things.
func each[T any](n int, of []T, f func(l []T)) {
	l := make([]T, 0, n)
	var grow func()
	grow = func() {
		if len(l) == n {
			f(l)
			return
		}
		for _, x := range of {
			l = append(l, x)
			grow()
			l = l[:len(l)-1]
		}
	}
	grow()
}

// smallTurns are those whose numbers are up to most.
func smallTurns(most uint64) []meter.Turn {
	var l []meter.Turn
	for gain := range most + 1 {
		for come := range most + 1 {
			for waste := range most + 1 {
				l = append(l, turn(gain, come, waste))
			}
		}
	}
	return l
}

// smallRows are those whose numbers are up to most.
func smallRows(most uint64) []meter.Row {
	var values []uint64
	for x := range most + 1 {
		values = append(values, x)
	}
	var l []meter.Row
	each(5, values, func(x []uint64) { l = append(l, row(x[0], x[1], x[2], x[3], x[4])) })
	return l
}

// mixer gives numbers in an order that shows no rule.
type mixer uint64

func (m *mixer) turn() uint64 {
	*m = *m*6364136223846793005 + 1442695040888963407
	return uint64(*m)
}

// one is one of n, each as often.
func (m *mixer) one(n int) int { return int(m.turn() >> 33 % uint64(n)) }

// number is one of any length, up to most; each end comes often.
func (m *mixer) number(most uint64) uint64 {
	switch m.one(6) {
	case 0:
		return 0
	case 1:
		return most
	}
	x := m.turn() >> m.one(64)
	if most == greatest {
		return x
	}
	return x % (most + 1)
}

// beside is a number, or one that lies beside it, or wraps round there.
func (m *mixer) beside(x uint64) uint64 { return x + uint64(m.one(3)) - 1 }

// scale is how great the numbers of mixed turns, and rooms, are at most.
type scale struct{ gain, come, waste, room uint64 }

func scales() []scale {
	return []scale{
		{3, 3, 3, 5},
		{10, 10, 10, 30},
		{100, 300, 100, 200},
		{300, 100, 100, 200},
		{100, 100, 0, 1000},
		{1 << 20, 1 << 20, 1 << 19, 1 << 22},
		{step, step, step, step},
		{step, step, step, 4 * step},
		{step, step, step, widest},
		{step, 9, step, 30},
		{9, step, 9, widest},
	}
}

// mixed is a room, and n turns, of some scale.
func mixed(n int, m *mixer, s scale) (uint64, []meter.Turn) {
	room := m.number(s.room)
	var l []meter.Turn
	for range n {
		l = append(l, turn(m.number(s.gain), m.number(s.come), m.number(s.waste)))
	}
	return room, l
}

// edged is a row behind another one that lies at, or beside, the edges of clauses; it may be in the envelope, or not.
func (m *mixer) edged(room uint64, ahead meter.Row, s scale) meter.Row {
	r := ahead
	r.Gain += m.number(s.gain)
	r.Came += m.number(s.come)
	if filled := r.Came - r.Dropped - r.Served; filled > room {
		r.Dropped += filled - room
	}
	r.Served += min(r.Came-r.Dropped-r.Served, r.Gain-r.Served-r.Wasted)
	if r.Served == r.Came-r.Dropped {
		r.Wasted += min(m.number(s.waste), r.Gain-r.Served-r.Wasted)
	}
	for range m.one(3) {
		x := numbers(&r)[m.one(5)]
		switch m.one(9) {
		case 0:
			*x = m.number(greatest)
		case 1:
			*x = *numbers(&ahead)[m.one(5)] + step + uint64(m.one(2))
		case 2:
			*x = *numbers(&r)[m.one(5)]
		case 3:
			*x = r.Came - r.Dropped
		case 4:
			*x = r.Gain - r.Wasted
		default:
			*x = m.beside(*x)
		}
	}
	return r
}
