package script_test

import (
	"fmt"
	"math/big"
	"regexp"
	"strings"
	"testing"

	"goit/api"
	"goit/bound"
	"goit/conf"
	"goit/link"
	"goit/loop"
	"goit/script"
)

// forms are those of lines, but for how great a number may be.
var forms = regexp.MustCompile(strings.ReplaceAll(`^(mss N init N reorder N window N probe N loss N|path N N N N|step N( N)*|run N N|state|bytes|link|limits|next)$`, "N", `(0|[1-9][0-9]*)`))

// numbersOf are those of a text that has a line's form; false, if one is too great.
func numbersOf(s string) (l []uint64, ok bool) {
	for _, w := range strings.Split(s, " ") {
		n, is := new(big.Int).SetString(w, 10)
		if !is {
			continue
		}
		if !n.IsUint64() {
			return nil, false
		}
		l = append(l, n.Uint64())
	}
	return l, true
}

// rightSetup tells whether six numbers, in a text's order, are a setup that may be.
func rightSetup(n []uint64) bool {
	most := []uint64{65535, 1000, 100, 1 << 40, 1 << 40, 1000}
	least := []uint64{1, 4, 1, 1, 1, 0}
	for i := range n {
		if n[i] < least[i] || n[i] > most[i] {
			return false
		}
	}
	return true
}

// stateNames are those of the document's table, in the order of states.
func stateNames() []string {
	return []string{"startup", "drain", "down", "cruise", "refill", "up", "probe"}
}

// plain is a desk as the words say it: a text that has a form is taken apart by its words, and each step is done by itself.
type plain struct {
	setup api.Conf
	loop  *loop.Loop
}

func (p *plain) line(s string) (string, api.Errno) {
	if len(s) > 2000 || !forms.MatchString(s) {
		return "", api.ErrForm
	}
	n, fit := numbersOf(s)
	if !fit {
		return "", api.ErrForm
	}
	word, _, _ := strings.Cut(s, " ")
	switch {
	case word == "mss" && rightSetup(n):
		p.setup = api.Conf{MSS: n[0], Init: n[1], Reorder: n[2], Window: n[3], ProbeLen: n[4], Loss: n[5]}
		return "", api.OK
	case word == "mss", word == "run" && (n[0] < 1 || n[0] > 1000):
		return "", api.ErrForm
	case word == "path":
		l, e := loop.New(p.setup, api.Path{Rate: n[0], Delay: n[1], Jitter: n[2], Buffer: n[3]})
		if e == api.OK {
			p.loop = l
		}
		return "", e
	case p.loop == nil:
		return "", api.ErrNone
	case word == "step":
		n = append(n, 0, 0) // choices of 0 are none
		return p.steps(1, loop.Step{After: n[0], Write: n[1], Waste: n[2], Choices: n[3:]})
	case word == "run":
		return p.steps(n[0], loop.Step{After: n[1]})
	}
	return p.reads(word), api.OK
}

// steps does a step so many times.
func (p *plain) steps(n uint64, x loop.Step) (string, api.Errno) {
	all := [3]int{}
	for range n {
		r, e := p.loop.Do(x)
		if e != api.OK {
			return "", e
		}
		all = [3]int{all[0] + r.Delivered, all[1] + r.Sent, all[2] + r.Kept}
	}
	return fmt.Sprintf("%d %d %d", all[0], all[1], all[2]), api.OK
}

// reads is what a word alone tells.
func (p *plain) reads(word string) string {
	x := look(p.loop)
	switch word {
	case "state":
		return fmt.Sprintf("%s cwnd %d pace %d best %d least %d", stateNames()[x.state], x.cwnd, x.pace, x.best, x.least)
	case "bytes":
		return fmt.Sprintf("waiting %d flight %d time %d", x.waiting, x.flight, x.time)
	case "link":
		c := x.count
		return fmt.Sprintf("came %d dropped %d queued %d served %d under %d delivered %d", c.Came, c.Dropped, c.Queued, c.Served, c.Under, c.Delivered)
	case "limits":
		none := strings.NewReplacer("18446744073709551615", "-")
		return none.Replace(fmt.Sprintf("hi %d lo %d bw %d", x.limits.Hi, x.limits.Lo, x.limits.Bw))
	}
	if !x.goes {
		return "-"
	}
	return fmt.Sprint(x.next)
}

// told is what a loop tells.
type told struct {
	there                               bool
	setup                               api.Conf
	path                                api.Path
	waiting, flight, time, bytes        uint64
	past, goes, comes                   bool
	next                                uint64
	state                               api.State
	cwnd, pace, best, least             uint64
	limits                              bound.Bounds
	linkTime, tokens, wasted, delivered uint64
	count                               link.Count
}

func look(l *loop.Loop) (x told) {
	if l == nil {
		return x
	}
	s, k := l.Sender(), l.Link()
	e := s.Engine()
	x = told{
		there: true, setup: s.Conf, path: k.Path,
		waiting: s.Waiting(), flight: s.InFlight(), time: s.Time(), bytes: s.Bytes(), past: s.Past(),
		state: e.State(), cwnd: e.Cwnd(), pace: e.Pace(), best: e.Best(), least: e.Least(), limits: e.Limits(),
		linkTime: k.Time(), count: k.Count(),
	}
	x.next, x.goes = s.Next()
	x.tokens, x.wasted = k.Tokens()
	x.delivered, x.comes = k.Next()
	return x
}

// pair is a desk, and a plain one, which are told the same.
type pair struct {
	*script.Desk
	plain *plain
	said  []string
}

func newPair(t *testing.T, lines ...string) *pair {
	t.Helper()
	p := &pair{Desk: script.New(), plain: &plain{setup: conf.Default()}}
	p.holds(t)
	p.goes(t, lines...)
	return p
}

// fatal ends a test, and tells behind what.
func (p *pair) fatal(t *testing.T, l ...any) {
	t.Helper()
	t.Fatalf("%v, behind %.99q of %d: %v", p.plain.setup, p.said[max(0, len(p.said)-9):], len(p.said), fmt.Sprint(l...))
}

// holds holds what the desk has against the plain one.
func (p *pair) holds(t *testing.T) {
	t.Helper()
	if p.Setup() != p.plain.setup {
		p.fatal(t, "a setup of ", p.Setup())
	}
	if got, want := look(p.Loop()), look(p.plain.loop); got != want {
		p.fatal(t, got, ", not ", want)
	}
}

// says says a line to both, and holds what is told, and what they have then. Rules 2 and 3: with an error nothing is told, and, but for steps, nothing is changed; just a path has another loop.
func (p *pair) says(t *testing.T, s string) (string, api.Errno) {
	t.Helper()
	setup, l, before := p.Setup(), p.Loop(), look(p.Loop())
	p.said = append(p.said, s)
	got, e := p.Line(s)
	want, f := p.plain.line(s)
	if got != want || e != f {
		p.fatal(t, fmt.Sprintf("%q, %d, not %q, %d", got, e, want, f))
	}
	p.holds(t)
	p.stays(t, s, e, setup, l, before)
	return got, e
}

// stays holds what a line may not have changed.
func (p *pair) stays(t *testing.T, s string, e api.Errno, setup api.Conf, l *loop.Loop, before told) {
	t.Helper()
	word, _, _ := strings.Cut(s, " ")
	steps := word == "step" || word == "run"
	if e != api.OK && (e == api.ErrForm || e == api.ErrNone || !steps) && (p.Setup() != setup || p.Loop() != l || look(l) != before) {
		p.fatal(t, "an error, and something is changed")
	}
	if made := e == api.OK && word == "path"; made != (p.Loop() != l) {
		p.fatal(t, "another loop, or not")
	}
	if !steps && look(l) != before {
		p.fatal(t, "a loop is changed")
	}
}

// goes says lines that have no error.
func (p *pair) goes(t *testing.T, lines ...string) {
	t.Helper()
	for _, s := range lines {
		if _, e := p.says(t, s); e != api.OK {
			p.fatal(t, "error ", e)
		}
	}
}

// tells says a line, and holds what it tells against what is written here.
func (p *pair) tells(t *testing.T, s, want string, e api.Errno) {
	t.Helper()
	if got, f := p.says(t, s); got != want || e != f {
		p.fatal(t, fmt.Sprintf("%q, %d, not %q, %d", got, f, want, e))
	}
}

// fails says lines that have an error.
func (p *pair) fails(t *testing.T, e api.Errno, lines ...string) {
	t.Helper()
	for _, s := range lines {
		p.tells(t, s, "", e)
	}
}
