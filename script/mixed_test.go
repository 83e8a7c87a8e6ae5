package script_test

import (
	"fmt"
	"slices"
	"strings"
	"testing"

	"goit/api"
	"goit/script"
)

// mixer gives numbers in an order that shows no rule.
type mixer uint64

func (m *mixer) turn() uint64 {
	*m = *m*6364136223846793005 + 1442695040888963407
	return uint64(*m)
}

// below is a number below another one.
func (m *mixer) below(n uint64) uint64 { return m.turn() >> 20 % n }

// number is one of any length, up to most.
func (m *mixer) number(most uint64) uint64 { return m.turn() >> m.below(64) % (most + 1) }

// scale is a setup, a path, its jitter, and how long steps are, and how much is written in one, at most.
type scale struct {
	setup, path           string
	jitter, length, bytes uint64
}

func scales() []scale {
	return []scale{
		{usual, near, 500, 1000, 1500},
		{usual, "path 1500000 20000 5000 60000", 5000, 2000, 4000},
		{usual, "path 300000 1000 0 3000", 0, 20000, 9000},
		{small, "path 1500000 10000 100 60000", 100, 3000, 9000},
		{small, "path 6000000 4000 30000 20000", 30000, 9000, 90000},
		{"mss 1500 init 4 reorder 1 window 10000000 probe 200000 loss 0", "path 1048576 0 9 7000", 9, 9000, 9000},
		{"mss 1 init 4 reorder 1 window 1 probe 1 loss 0", "path 1000000 3 2 9", 2, 9, 9},
		{"mss 65535 init 1000 reorder 100 window 1099511627776 probe 1099511627776 loss 1000", "path 1099511627776 100 100 72057594037927936", 100, 1000, 1 << 40},
		{usual, "path 1500000 2199023255552 4398046511104 30000", api.Horizon, api.Horizon / 200, 1 << 30},
	}
}

// step is one: it goes on till something comes to be, or a microsecond beside that, or for any time.
func (m *mixer) step(p *pair, s scale) string {
	x := look(p.plain.loop)
	length := m.number(s.length)
	for i, at := range []uint64{x.next, x.delivered} {
		if at += m.below(3); m.below(4) == uint64(i) && at > x.linkTime && at-x.linkTime < api.Horizon/100 {
			length = at - x.linkTime - 1
		}
	}
	line := fmt.Sprint("step ", length)
	if m.below(3) > 0 {
		line += fmt.Sprint(" ", m.number(s.bytes))
		for i := range m.below(5) {
			n := m.number(2*s.jitter + 1)
			if i == 0 {
				n = m.number(1<<64 - 2)
			}
			line += fmt.Sprint(" ", n)
		}
	}
	return line
}

// line is one of some scale, behind those that a pair was told.
func (m *mixer) line(p *pair, s scale) string {
	switch m.below(40) {
	case 0:
		return scales()[m.below(uint64(len(scales())))].setup
	case 1:
		return fmt.Sprint("path ", m.below(9), " ", m.below(9), " ", m.below(9), " ", m.below(9))[:10+m.below(3)]
	case 2, 3, 4:
		return fmt.Sprint("run ", m.below(7), " ", m.number(s.length))
	case 5:
		return fmt.Sprint("run ", m.number(1010), " ", m.below(3))
	case 6, 7: // one that is nearly a line
		b := []byte(m.step(p, s))
		b[m.below(uint64(len(b)))] = "0 -a\xff"[m.below(5)]
		return string(b)
	case 8, 9, 10, 11, 12:
		return readings()[m.below(5)]
	case 13:
		if m.below(20) == 0 {
			return s.path
		}
		return "limits"
	}
	return m.step(p, s)
}

// P24.1: mixed lines of all scales; all states are reached, each limit is told, packets are dropped, and there are errors. Another desk is told them by Lines.
func TestMixed(t *testing.T) {
	errors, states := map[api.Errno]int{}, map[string]int{}
	var dropped uint64
	var limits, none [3]int
	for i, s := range scales() {
		for round := range uint64(4) {
			m := mixer(100*uint64(i) + round)
			p, b := newPair(t), &batch{Desk: script.New()}
			for n := range 2500 {
				line := m.line(p, s)
				switch {
				case n == 20+int(round):
					line = s.setup
				case n == 30 || n == 2490:
					line = s.path
				case n == 2450:
					line = "step 0 0 0 1 4398046511105"
				case n == 2460:
					line = "step 4398046511105"
				}
				told, e := p.says(t, line)
				b.says(t, &m, line, told, e)
				errors[e]++
				x := look(p.Loop())
				if x.there {
					states[stateNames()[x.state]]++
					for i, n := range []uint64{x.limits.Hi, x.limits.Lo, x.limits.Bw} {
						if n == 1<<64-1 {
							none[i]++
						} else {
							limits[i]++
						}
					}
				}
				dropped += x.count.Dropped
			}
			b.flush(t)
			if look(b.Loop()) != look(p.Loop()) || b.Setup() != p.Setup() {
				p.fatal(t, "by Lines: ", look(b.Loop()), ", not ", look(p.Loop()))
			}
		}
	}
	for _, e := range []api.Errno{api.OK, api.ErrArg, api.ErrHorizon, api.ErrNone, api.ErrForm} {
		if errors[e] < 100 {
			t.Errorf("error %d: %v", e, errors)
		}
	}
	if len(errors) != 5 || len(states) != 7 || dropped == 0 || min(limits[0], limits[1], limits[2], none[0], none[1], none[2]) < 100 {
		t.Errorf("errors %v, states %v, dropped %d, limits %v, none %v", errors, states, dropped, limits, none)
	}
}

// batch is a desk that is told some lines at once, and what another one told of each.
type batch struct {
	*script.Desk
	lines, told []string
	errnos      []api.Errno
}

// says keeps a line, or says all that it kept.
func (b *batch) says(t *testing.T, m *mixer, line, told string, e api.Errno) {
	t.Helper()
	b.lines, b.told, b.errnos = append(b.lines, line), append(b.told, told), append(b.errnos, e)
	if m.below(6) == 0 {
		b.flush(t)
	}
}

// flush says what it kept, again and again behind lines that have an error.
func (b *batch) flush(t *testing.T) {
	t.Helper()
	for len(b.lines) > 0 {
		done, want := len(b.lines), api.OK
		for i, e := range b.errnos {
			if e != api.OK {
				done, want = i, e
				break
			}
		}
		if told, e := b.Lines(b.lines...); e != want || !slices.Equal(told, b.told[:done]) {
			t.Fatalf("%q: %q, %d, not %q, %d", b.lines, told, e, b.told[:done], want)
		}
		if done < len(b.lines) {
			done++
		}
		b.lines, b.told, b.errnos = b.lines[done:], b.told[done:], b.errnos[done:]
	}
}

// P24.1: all rows of four of 14 lines, one by one, and at once.
func TestRows(t *testing.T) {
	l := []string{near, small, usual, "step 1000 6000", "step 37 1500 5 400", "step 9999", "run 3 700", "run 2 4398046511104", "path 0 1 1 1", "path 5000000 100 0 9000", "run 1001 1", "state", "link", "next"}
	for row := range len(l) * len(l) * len(l) * len(l) {
		p, b := newPair(t), &batch{Desk: script.New()}
		for range 4 {
			line := l[row%len(l)]
			told, e := p.says(t, line)
			b.lines, b.told, b.errnos = append(b.lines, line), append(b.told, told), append(b.errnos, e)
			row /= len(l)
		}
		b.flush(t)
		if look(b.Loop()) != look(p.Loop()) || b.Setup() != p.Setup() {
			p.fatal(t, "by Lines: ", look(b.Loop()))
		}
	}
}

// P24.1 (D1: Lines): no lines, one, many; what is told up to an error, in the first line, one between, the last, and that; what comes behind is not done.
func TestLines(t *testing.T) {
	for _, x := range []struct {
		lines, told []string
		errno       api.Errno
		last        string // what bytes tells then
	}{
		{nil, nil, api.OK, ""},
		{[]string{}, nil, api.OK, ""},
		{[]string{usual}, []string{""}, api.OK, ""},
		{[]string{near}, []string{""}, api.OK, "waiting 0 flight 0 time 0"},
		{[]string{small, near, "step 0 3000", "next", "step 91", "bytes"}, []string{"", "", "0 0 0", "91", "0 1 1", "waiting 2000 flight 1000 time 91"}, api.OK, "waiting 2000 flight 1000 time 91"},
		{[]string{"state", near}, nil, api.ErrNone, ""},
		{[]string{"", near}, nil, api.ErrForm, ""},
		{[]string{"path 0 0 0 0", near}, nil, api.ErrArg, ""},
		{[]string{near, "step 7", "path 0 0 0 0", near}, []string{"", "0 0 0"}, api.ErrArg, "waiting 0 flight 0 time 7"},
		{[]string{near, "step 7", "step", "step 8"}, []string{"", "0 0 0"}, api.ErrForm, "waiting 0 flight 0 time 7"},
		{[]string{near, "step 7 9", "run 2 4398046511097", "next", "step 8"}, []string{"", "0 1 1"}, api.ErrHorizon, "waiting 0 flight 9 time 4398046511104"},
		{[]string{near, "step 7", "next", "state\n"}, []string{"", "0 0 0", "-"}, api.ErrForm, "waiting 0 flight 0 time 7"},
		{[]string{near + "\nstate"}, nil, api.ErrForm, ""},
	} {
		d := script.New()
		if told, e := d.Lines(x.lines...); e != x.errno || !slices.Equal(told, x.told) {
			t.Errorf("%q: %q, %d", x.lines, told, e)
		}
		if last, e := d.Line("bytes"); last != x.last || (e == api.OK) != (x.last != "") {
			t.Errorf("%q, then bytes: %q, %d", x.lines, last, e)
		}
	}
	many := append([]string{usual, near}, slices.Repeat([]string{"step 1"}, 100000)...)
	many = append(many, "bytes")
	d := script.New()
	told, e := d.Lines(many...)
	if len(told) != len(many) || e != api.OK || told[len(told)-1] != "waiting 0 flight 0 time 100000" {
		t.Errorf("%d, %d", len(told), e)
	}
}

// P24.1 (D1), P1: a nil desk: ErrArg, ahead of all else, nothing told, no loop, an empty setup; of no lines OK.
func TestNil(t *testing.T) {
	var d *script.Desk
	if d.Loop() != nil || d.Setup() != (api.Conf{}) {
		t.Errorf("%v, %v", d.Loop(), d.Setup())
	}
	all := append(readings(), "", usual, near, "path 0 0 0 0", "step 1", "step", "run 1 1", "run 0 1", "\xff", strings.Repeat("x", 3000))
	for _, s := range all {
		if told, e := d.Line(s); told != "" || e != api.ErrArg {
			t.Errorf("%.99q: %q, %d", s, told, e)
		}
		if told, e := d.Lines(s, usual); len(told) != 0 || e != api.ErrArg {
			t.Errorf("%.99q: %q, %d", s, told, e)
		}
	}
	if told, e := d.Lines(all...); len(told) != 0 || e != api.ErrArg {
		t.Errorf("%q, %d", told, e)
	}
	for _, l := range [][]string{nil, {}, all[:0]} {
		if told, e := d.Lines(l...); len(told) != 0 || e != api.OK {
			t.Errorf("%q, %d", told, e)
		}
	}
}

// P2: desks beside one another, of the same lines, and of others, in turns: each tells what it tells alone, and has a loop of its own.
func TestBeside(t *testing.T) {
	s := scales()[3]
	m := mixer(77)
	p := newPair(t, s.setup, s.path)
	for range 600 {
		p.says(t, m.line(p, s))
	}
	beside := []*pair{newPair(t), newPair(t), newPair(t, small, near), newPair(t, scales()[5].setup, scales()[5].path)}
	for i, line := range p.said {
		for j, q := range beside {
			if j > 1 {
				line = p.said[(i*7+j)%len(p.said)]
			}
			q.says(t, line)
		}
	}
	for _, q := range beside[:2] {
		if look(q.Loop()) != look(p.Loop()) || q.Setup() != p.Setup() {
			p.fatal(t, look(q.Loop()), ", not ", look(p.Loop()))
		}
	}
	for i, q := range beside {
		for _, r := range beside[:i] {
			if q.Loop() == r.Loop() {
				t.Error("two desks have one loop")
			}
		}
	}
}

// DOC.md, rule 4: the lines are as they were, and what lies behind their length; what is told is new, so that a change of it, or of the lines, changes nothing else.
func TestHandedIn(t *testing.T) {
	row := func() []string {
		return []string{"step 1000 4500 5 300 9", "bytes", "link", "next", "state", "limits", "run 2 70", "", "step 999 999", "x"}
	}
	p, d := newPair(t, near), script.New()
	d.Line(near)
	var before [][]string
	for range 60 {
		l, want := row(), row()
		told, e := d.Lines(l[:7]...)
		if e != api.OK || !slices.Equal(l, want) {
			t.Fatalf("%d, %q, not %q", e, l, want)
		}
		for i, s := range want[:7] {
			p.tells(t, s, told[i], api.OK)
		}
		before = append(before, slices.Clone(told))
		for i := range l {
			l[i] = "step 77 77"
		}
		for i := range told {
			told[i] = "x"
		}
		_ = append(told, "y", "z")
	}
	q := script.New()
	q.Line(near)
	var kept [][]string
	for range before {
		told, _ := q.Lines(row()[:7]...)
		kept = append(kept, told)
	}
	for i := range before {
		if !slices.Equal(kept[i], before[i]) {
			t.Fatalf("%q, not %q", kept[i], before[i])
		}
	}
}

// P24.1 (D1: Loop): it is the desk's own: what is done with it there is told by lines, and the other way round.
func TestOwn(t *testing.T) {
	p := newPair(t, near)
	l := p.Loop()
	p.tells(t, "step 100 3000", "0 2 2", api.OK)
	if l.Time() != 100 || l.InFlight() != 3000 || p.Loop() != l {
		p.fatal(t, look(l))
	}
	if e := l.Write(70); e != api.OK {
		t.Fatal(e)
	}
	p.plain.loop.Write(70)
	p.tells(t, "bytes", "waiting 70 flight 3000 time 100", api.OK)
}
