package bbr_test

import (
	"math"
	"math/big"
	"slices"
	"testing"

	"goit/api"
	"goit/bbr"
	"goit/bound"
)

// greatest is the greatest number; a bound that is that is none.
const greatest = math.MaxUint64

// whole is a number without a bound up to the end.
func whole(x uint64) *big.Int { return new(big.Int).SetUint64(x) }

// held is a number without bounds, held to those of a number.
func held(n *big.Int) uint64 {
	switch {
	case n.Sign() < 0:
		return 0
	case !n.IsUint64():
		return greatest
	}
	return n.Uint64()
}

func sum(a, b uint64) uint64  { return held(new(big.Int).Add(whole(a), whole(b))) }
func less(a, b uint64) uint64 { return held(new(big.Int).Sub(whole(a), whole(b))) }
func times(a, b uint64) uint64 {
	return held(new(big.Int).Mul(whole(a), whole(b)))
}

// part is a times b, by c, rounded down.
func part(a, b, c uint64) uint64 {
	if c == 0 {
		return greatest
	}
	n := new(big.Int).Mul(whole(a), whole(b))
	return held(n.Quo(n, whole(c)))
}

// piece is a times b, by c, rounded up.
func piece(a, b, c uint64) uint64 {
	if c == 0 {
		return greatest
	}
	n := new(big.Int).Mul(whole(a), whole(b))
	n.Add(n, whole(c-1))
	return held(n.Quo(n, whole(c)))
}

// trip is a round trip that was put at a time.
type trip struct{ time, rtt uint64 }

// model is an engine, as the chapters' words have it: it keeps all readings that count, and goes through them.
type model struct {
	c api.Conf

	state                api.State
	began, rounds        uint64
	time                 uint64
	trips                []trip
	found                trip
	some                 bool
	rates                []uint64 // the greatest one of each cycle
	mark                 uint64
	best, number         uint64
	hi, lo, bw           uint64
	acked, lost          uint64
	cwnd, kept, ended    uint64
	over, lossy, changed bool
}

func newModel(c api.Conf) *model {
	return &model{c: c, found: trip{rtt: 1000}, rates: make([]uint64, 1), hi: greatest, lo: greatest, bw: greatest, cwnd: c.Init * c.MSS}
}

// look looks for the least round trip among all readings. (Those that do not count any more never will again.)
func (m *model) look() {
	m.trips = slices.DeleteFunc(m.trips, func(r trip) bool {
		return r.time <= greatest-m.c.Window && r.time+m.c.Window < m.time
	})
	m.found, m.some = trip{rtt: 1000}, false
	for _, r := range m.trips {
		if !m.some || r.rtt <= m.found.rtt {
			m.found, m.some = r, true
		}
	}
}

// fastest is the cycle filter's best.
func (m *model) fastest() uint64 {
	if n := len(m.rates); n > 1 {
		return max(m.rates[n-1], m.rates[n-2])
	}
	return m.rates[0]
}

// rate is the best rate.
func (m *model) rate() uint64 {
	if x := m.fastest(); x != 0 {
		return x
	}
	return part(m.c.Init*m.c.MSS, 1000000, m.found.rtt)
}

func (m *model) holds() uint64 {
	return piece(m.rate(), m.found.rtt, 1000000)
}

func (m *model) uses() uint64 {
	return piece(min(m.rate(), m.bw), m.found.rtt, 1000000)
}

// room is 85 hundredths of the long bound.
func (m *model) room() uint64 {
	if m.hi == greatest {
		return greatest
	}
	return part(m.hi, 85, 100)
}

// pace is how fast.
func (m *model) pace() uint64 {
	g := map[api.State]uint64{0: 277, 1: 36, 2: 75, 3: 100, 4: 100, 5: 125, 6: 100}[m.state]
	return min(max(part(min(m.rate(), m.bw), g, 100), 4*m.c.MSS), 1<<40)
}

// quantum is what goes at once.
func (m *model) quantum() uint64 {
	return min(max(m.pace()/1000, 2*m.c.MSS), 64*m.c.MSS)
}

// window is a state's, of what may be used.
func (m *model) window() uint64 {
	g := map[api.State]uint64{0: 200, 1: 200, 2: 200, 3: 200, 4: 200, 5: 225, 6: 50}[m.state]
	return piece(m.uses(), g, 100)
}

// on is an event, step by step.
func (m *model) on(x bbr.Event) {
	m.acked, m.lost = sum(m.acked, x.Acked), sum(m.lost, x.Lost) // 1
	m.second(x)
	m.third(x)
	if m.lossy && (m.state == api.Startup || m.state == api.Up) { // 4
		m.hi = max(x.InFlight, part(m.holds(), 7, 10))
	} else if m.lossy {
		m.lose(x)
	}
	m.fifth(x)
	if m.state == api.Up && !m.lossy && m.hi != greatest { // 6
		m.hi = min(sum(m.hi, x.Acked), greatest-1)
	}
	m.seventh(x)
}

func (m *model) second(x bbr.Event) {
	ahead := x.Now >= m.time
	if ahead {
		m.time = x.Now
	}
	if ahead && x.Some {
		m.trips = append(m.trips, trip{x.Now, x.Sample.RTT})
	}
	m.look()
	m.over = false
	if !x.Some {
		return
	}
	if sent := less(x.Delivered, x.Sample.Delivered); sent >= m.mark {
		m.mark, m.over = x.Delivered, true
	}
	if !x.Sample.Limited || x.Sample.Rate >= m.fastest() {
		this := &m.rates[len(m.rates)-1]
		*this = max(*this, x.Sample.Rate)
	}
}

func (m *model) third(x bbr.Event) {
	m.lossy = false
	if m.over {
		m.lossy = times(m.lost, 1000) > times(m.c.Loss, sum(m.acked, m.lost))
		m.acked, m.lost = 0, 0
		m.rounds++
	}
	if x.Some && m.number < 3 && m.over && !x.Sample.Limited {
		if f := m.fastest(); times(f, 4) >= times(m.best, 5) {
			m.best, m.number = f, 0
		} else {
			m.number++
		}
	}
}

// lose is what a loss does to the short bounds.
func (m *model) lose(x bbr.Event) {
	lo, bw := m.lo, m.bw
	if lo == greatest {
		lo = m.cwnd
	}
	m.lo = max(x.Sample.Delivered, part(lo, 7, 10))
	if bw == greatest {
		m.bw = x.Sample.Rate
	} else {
		m.bw = max(x.Sample.Rate, part(bw, 7, 10))
	}
}

// stale tells whether the least round trip is too old.
func (m *model) stale(now uint64) bool {
	return m.some && less(now, max(m.found.time, m.ended)) > m.c.Window/2
}

// next is the state that comes, by the rows of the chapter's table.
func (m *model) next(x bbr.Event) api.State {
	cycles := uint64(len(m.rates) - 1)
	wait := 2000000 + 125000*(cycles%8)
	if m.state == api.ProbeRTT {
		wait = m.c.ProbeLen
	}
	late := less(x.Now, m.began) >= wait
	little := x.InFlight <= m.holds()
	much := x.InFlight >= part(m.holds(), 5, 4)
	full := m.number == 3
	rows := []struct {
		of   api.State
		so   bool
		then api.State
	}{
		{0, m.stale(x.Now), 6},
		{1, m.stale(x.Now), 6},
		{2, m.stale(x.Now), 6},
		{3, m.stale(x.Now), 6},
		{4, m.stale(x.Now), 6},
		{5, m.stale(x.Now), 6},
		{0, full || m.lossy, 1},
		{1, little, 2},
		{2, little && x.InFlight <= m.room(), 3},
		{2, late, 4},
		{3, late, 4},
		{4, m.rounds >= 1, 5},
		{5, m.lossy, 2},
		{5, m.rounds >= 1 && much, 2},
		{6, late && m.rounds >= 1 && full, 3},
		{6, late && m.rounds >= 1, 0},
	}
	for _, r := range rows {
		if r.of == m.state && r.so {
			return r.then
		}
	}
	return m.state
}

func (m *model) fifth(x bbr.Event) {
	s := m.next(x)
	m.changed = s != m.state
	if !m.changed {
		return
	}
	if m.state == api.Up && s == api.Down {
		m.rates = append(m.rates, 0)
	}
	if s == api.Refill {
		m.lo, m.bw = greatest, greatest
	}
	if s == api.ProbeRTT {
		m.kept = m.cwnd
	}
	if m.state == api.ProbeRTT {
		m.ended, m.cwnd = x.Now, max(m.cwnd, m.kept)
	}
	m.state, m.began, m.rounds = s, x.Now, 0
}

func (m *model) seventh(x bbr.Event) {
	l := []uint64{sum(m.cwnd, x.Acked), m.hi, m.lo}
	if m.state != api.Startup || m.number == 3 {
		l = append(l, sum(m.window(), m.quantum()))
	}
	if m.state == api.Down || m.state == api.Cruise {
		l = append(l, m.room())
	}
	if m.state == api.ProbeRTT {
		l = append(l, m.window())
	}
	m.cwnd = min(max(slices.Min(l), 4*m.c.MSS), 1<<56)
}

// answers are all that an engine answers.
type answers struct {
	state                              api.State
	cwnd, pace, quantum, trip, fastest uint64
	limits                             bound.Bounds
}

// asked are an engine's.
func asked(e *bbr.Engine) answers {
	return answers{e.State(), e.Cwnd(), e.Pace(), e.Quantum(), e.Least(), e.Best(), e.Limits()}
}

// answers are a model's.
func (m *model) answers() answers {
	return answers{m.state, m.cwnd, m.pace(), m.quantum(), m.found.rtt, m.rate(), bound.Bounds{Hi: m.hi, Lo: m.lo, Bw: m.bw}}
}

// pair is an engine, and its model: both are told each event, and have to answer the same behind it.
type pair struct {
	*bbr.Engine
	m *model
	t testing.TB
	n int
}

func newPair(t testing.TB, c api.Conf) *pair {
	t.Helper()
	e, err := bbr.New(c)
	if err != api.OK || e == nil {
		t.Fatalf("New(%v) = %v, %d", c, e, err)
	}
	p := &pair{Engine: e, m: newModel(c), t: t}
	p.check(bbr.Event{})
	return p
}

// tell tells both an event.
func (p *pair) tell(x bbr.Event) {
	p.t.Helper()
	p.On(x)
	p.m.on(x)
	p.n++
	p.check(x)
}

// check holds the engine's answers against the model's, and against what nobody may be below (P15.2).
func (p *pair) check(x bbr.Event) {
	p.t.Helper()
	got, want := asked(p.Engine), p.m.answers()
	if got != want {
		p.t.Fatalf("behind event %d, %+v, of %+v: %+v, not %+v", p.n, x, p.m.c, got, want)
	}
	if least := 4 * p.m.c.MSS; got.cwnd < least || got.pace < least {
		p.t.Fatalf("behind event %d, %+v, of %+v: %+v is below %d", p.n, x, p.m.c, got, least)
	}
}
