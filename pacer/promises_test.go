package pacer_test

import (
	"math/big"
	"slices"
	"testing"

	"goit/api"
	"goit/pacer"
)

// account is what may be taken, and what was, in a row of ticks that begins behind a tick, or where the pacer does.
type account struct {
	from          int
	quantum       uint64   // the greatest one
	earned, taken *big.Int // each tick's rate times its length; what was taken; in millionths
}

// fair tells whether no more was taken than may be. Where what may be taken is above the greatest number, that is what is told of both.
func (a account) fair() bool {
	may := product(a.quantum, millionths)
	may.Add(may, a.earned)
	return bounded(a.taken).Cmp(bounded(may)) <= 0
}

// noMore holds each row of ticks, within calls, against what may be taken in it. Fill is no tick: it ends all rows, and another one begins.
func noMore(t *testing.T, l []call) {
	t.Helper()
	p := pacer.New()
	open := []account{{earned: new(big.Int), taken: new(big.Int)}}
	time, quantum := uint64(0), uint64(0)
	for i, c := range l {
		got := c.do(p)
		switch {
		case c.name == "Fill":
			open = open[:0]
		case c.name == "Tick" && got.errno == api.OK:
			for j := range open {
				open[j].earned.Add(open[j].earned, product(c.rate, c.now-time))
				open[j].quantum = max(open[j].quantum, c.quantum)
			}
			time, quantum = c.now, c.quantum
		case got.taken:
			for j := range open {
				open[j].taken.Add(open[j].taken, product(c.size, millionths))
			}
		}
		if c.name != "Take" {
			open = append(open, account{i + 1, quantum, new(big.Int), new(big.Int)})
		}
		for _, a := range open {
			if !a.fair() {
				t.Fatalf("from call %d on, of %v: %d taken, of a quantum of %d, and %d earned", a.from, l[:i+1], a.taken, a.quantum, a.earned)
			}
		}
	}
}

// P16.2: what is taken, in any row of ticks, is no more than the greatest quantum, and each tick's rate times its length, together.
func TestNoMore(t *testing.T) {
	of := []call{tick(0, 9, 1), tick(1, 1500000, 2), tick(2, 500000, 1), tick(2, 0, 3), tick(3, 4000000, 2), take(1), take(2), take(3), fill()}
	rows(5, of, func(l []call) {
		if len(l) == 5 {
			noMore(t, l)
		}
	})
	great := []call{tick(1, greatest, fitting), tick(2, greatest, greatest), tick(3, 7, 5), tick(1<<33, 1<<32, wrapping), take(fitting), take(fitting + 1), take(wrapping), take(greatest), take(5)}
	rows(4, great, func(l []call) { noMore(t, l) })
	for i, s := range scales() {
		for n := range 20 {
			noMore(t, mixed(120, mixer(1000+100*i+n), s))
		}
	}
}

// P16.2: one who takes all that there is, byte by byte, and as soon as it is there, takes just that much, and no more.
func TestAllThatThereIs(t *testing.T) {
	for _, x := range []struct{ rate, quantum, length, steps, bytes uint64 }{
		{1000000, 5, 1, 1000, 1000},
		{1500000, 5, 1, 1000, 1500},
		{1500000, 1, 1, 1000, 1000}, // what is above the quantum is gone
		{300000, 2, 1, 1000, 300},
		{300000, 2, 7, 1000, 2000},
		{333333, 9, 3, 1000, 999},
		{0, 9, 3, 1000, 0},
		{333333, 0, 3, 1000, 0},
	} {
		p := pacer.New()
		bytes, now := uint64(0), uint64(0)
		for range x.steps {
			now += x.length
			p.Tick(now, x.rate, x.quantum)
			for range x.quantum + 1 {
				if p.Take(1) {
					bytes++
				}
			}
		}
		if bytes != x.bytes {
			t.Errorf("%v: %d bytes", x, bytes)
		}
	}
}

// with is calls, and one more; the calls are left as they are.
func with(l []call, c call) []call { return append(slices.Clip(l), c) }

// promised holds what Next tells behind calls against what Take then does, behind a tick at the same rate, and quantum. It answers how many sizes had to wait.
func promised(t *testing.T, l []call) int {
	t.Helper()
	p := plainly(l...)
	waits := 0
	for _, size := range p.sizes() {
		got := next(behind(l...), size)
		at := func(now uint64) bool { return behind(with(l, tick(now, p.rate, p.quantum))...).Take(size) }
		first := p.first(size)
		switch {
		case first == nil:
			// What is above the quantum is never there, unless both run over, and are told as the same.
			if got.ok || size <= fitting && (at(p.time) || at(greatest)) {
				t.Fatalf("behind %v: Next(%d): %v, and Take then", l, size, got)
			}
		case !first.IsUint64():
			// It would be there behind the last time, which is told, but it is not there at that.
			if got != (then{greatest, true}) || at(greatest) {
				t.Fatalf("behind %v: Next(%d): %v", l, size, got)
			}
		case !got.ok || got.at < p.time || !at(got.at):
			t.Fatalf("behind %v: Next(%d): %v, and no Take then", l, size, got)
		case got.at > p.time:
			waits++
			if at(got.at-1) || at(p.time) {
				t.Fatalf("behind %v: Next(%d): %v, but Take ahead", l, size, got)
			}
		}
	}
	return waits
}

// P16.3: at the time that Next tells, behind a tick at the same rate and quantum, it may be taken; a microsecond ahead not.
func TestThen(t *testing.T) {
	waits := 0
	rows(3, edges(), func(l []call) { waits += promised(t, l) })
	for i, s := range scales() {
		for n := range 600 {
			waits += promised(t, mixed(1+n%60, mixer(5000+1000*i+n), s))
		}
	}
	if waits < 1000 {
		t.Errorf("only %d sizes had to wait", waits)
	}
}

// P16.3: at each time ahead of it, too, whatever ticks are between.
func TestThenStepByStep(t *testing.T) {
	for _, rate := range []uint64{1, 3, 40000, 99999, 333333, 1000000, 1000001, 7000000} {
		for _, credit := range []uint64{0, 1, 999999, 1000000, 1234567} {
			for size := range uint64(10) {
				const quantum = 9
				l := []call{tick(1, credit, quantum), tick(1, rate, quantum)}
				p := behind(l...)
				got := next(p, size)
				if !got.ok {
					t.Fatalf("behind %v: Next(%d): %v", l, size, got)
				}
				step := max(1, got.at/50)
				for now := uint64(1); now < got.at; now += step {
					p.Tick(now, rate, quantum)
					if again := next(p, size); p.Take(size) || again != got {
						t.Fatalf("behind %v: at %d, ahead of %v: Take(%d), or %v", l, now, got, size, again)
					}
				}
				p.Tick(got.at, rate, quantum)
				if !p.Take(size) {
					t.Fatalf("behind %v: at %v: no Take(%d)", l, got, size)
				}
			}
		}
	}
}

// P16.3: one who goes from time to time that Next tells takes each packet at its time, a packet's bytes by the rate behind another one.
func TestFromTimeToTime(t *testing.T) {
	const rate, quantum, size = 3000000, 3000, 1500 // 500 microseconds a packet
	p := pacer.New()
	p.Tick(0, rate, quantum)
	for i := range uint64(1000) {
		at, ok := p.Next(size)
		if !ok || at != 500*(i+1) {
			t.Fatalf("packet %d: %d %t", i, at, ok)
		}
		if p.Tick(at-1, rate, quantum) != api.OK || p.Take(size) || p.Tick(at, rate, quantum) != api.OK || !p.Take(size) {
			t.Fatalf("packet %d, at %d", i, at)
		}
	}
}
