package script_test

import (
	"slices"
	"strings"
	"testing"

	"goit/api"
	"goit/script"
)

// pairs are two to which texts may be said: one without a loop, one with a loop, with packets on their way.
func pairs(t *testing.T) []*pair {
	t.Helper()
	return []*pair{newPair(t), newPair(t, small, near, "step 0 9000", "step 1000", "step 9999")}
}

// P24.1 (Words: a line): texts that are none, with and without a loop.
func TestNoLines(t *testing.T) {
	for _, p := range pairs(t) {
		p.fails(t, api.ErrForm, "", " ", "  ", "\n", "\x00", "-", "0", "1", "7 7", "loop", "go", "stat", "states", "byte", "bits", "limit", "lim its", "nex", "links", "paths", "runs", "steps", "help", "mss", "setup", "print", "New", "Line", "(*Desk).state", "state\xff", "\xffstate", "\xff", "\xc3\x28", "stäte", "ſtate", "\ufeffstate", "zustand")
		for _, s := range readings() {
			p.fails(t, api.ErrForm, s+" ", " "+s, s+" 0", s+" 1", s+" x", s+" "+s, s+"\n", s+"\r", s+"\t", "\t"+s, s+"\x00", s+"  ", s+s, s+"0", s+"-", strings.ToUpper(s), strings.ToUpper(s[:1])+s[1:], s[:len(s)-1], s[1:])
		}
		for _, s := range []string{usual, near, "step 1 1 1 1", "run 1 1"} {
			first, behind, _ := strings.Cut(s, " ")
			for _, other := range []string{"  ", "\t", "\n", "\r\n", "\v", "\u00a0", "\u2003", ",", " , ", "_", ""} {
				p.fails(t, api.ErrForm, first+other+behind, strings.ReplaceAll(s, " ", other))
			}
			p.fails(t, api.ErrForm, s+" ", " "+s, s+"\n", s+"  ", "\t"+s, s+"\t", strings.ToUpper(s), strings.ToUpper(s[:1])+s[1:], behind, s+" "+s, s+"\n"+s, s+";"+s, behind+" "+first)
		}
	}
}

// P24.1 (Words: a number): each of many texts as each number of each line; figures without needless noughts, up to 2^64 - 1, are numbers.
func TestNumbers(t *testing.T) {
	wrong := []string{"", "-", "00", "01", "007", "000", "+0", "+1", "-0", "-1", "1-", "1+", "1.0", "1.", ".1", "1e3", "1E3", "0x1", "0b1", "0o1", "1_0", "_1", "1_", "a", "1a", "a1", "O", "l", "½", "٣", "１", "²", "1\x00", "\x001", "1\n", "1\t", "1\r", "\xff", "1\xff", "inf", "nil", "max",
		"18446744073709551616", "18446744073709551617", "18446744073709551620", "18446744073709551625", "018446744073709551615", "20000000000000000000", "36893488147419103232", "99999999999999999999", "100000000000000000000", "184467440737095516150", "340282366920938463463374607431768211456", strings.Repeat("9", 400), strings.Repeat("0", 400), "1" + strings.Repeat("0", 1000)}
	right := []string{"0", "1", "9", "10", "1000", "1001", "65535", "18446744073709551614", "18446744073709551615"}
	lines := []string{usual, near, "step 1", "step 1 2", "step 1 2 3", "step 1 2 3 4", "step 1 2 3 4 5 6", "run 1 1"}
	for _, p := range pairs(t) {
		for _, s := range lines {
			words := strings.Split(s, " ")
			for i := range words {
				if _, ok := numbersOf(words[i]); i == 0 || !ok {
					continue
				}
				at := func(w string) string {
					l := slices.Clone(words)
					l[i] = w
					return strings.Join(l, " ")
				}
				for _, w := range wrong {
					if !strings.HasPrefix(s, "mss") || i%2 == 1 {
						p.fails(t, api.ErrForm, at(w))
					}
				}
				for _, w := range right {
					p.says(t, at(w))
				}
			}
			p.says(t, small)
			if p.Loop() != nil {
				p.goes(t, near)
			}
		}
	}
	p := newPair(t, near)
	p.goes(t, "step 0 0 18446744073709551615", "step 0 0 0 18446744073709551615", "step 1", "run 1 0")
	p.fails(t, api.ErrHorizon, "step 18446744073709551615 0 0 0", "step 0 18446744073709551615")
}

// P24.1 (Words: a line): each text that is a line but for one byte that is missing, doubled, another one, or one more.
func TestNearly(t *testing.T) {
	others := []string{" ", "\t", "\n", "\x00", "\xff", "0", "1", "9", "-", "+", "_", ".", "a", "s", "S", "é", "٣", "\u00a0"}
	lines := append(readings(), usual, near, "step 10", "step 10 0 5 3 20", "run 1000 10", "run 10 1000")
	for _, s := range lines {
		for _, p := range pairs(t) {
			for i := range len(s) + 1 {
				for _, x := range others {
					p.says(t, s[:i]+x+s[i:])
					if i < len(s) {
						p.says(t, s[:i]+x+s[i+1:])
					}
				}
				if i < len(s) {
					p.says(t, s[:i]+s[i+1:])
					p.says(t, s[:i+1]+s[i:])
				}
				p.says(t, s[:i])
				p.says(t, s[i:])
			}
		}
	}
}

// P24.1 (MostLine): texts of 2000 bytes, and of one more, and of many, that would else be lines, or not.
func TestLengths(t *testing.T) {
	if script.MostLine != 2000 {
		t.Fatal(script.MostLine)
	}
	fill := func(s string, n int) string { // choices up to that many bytes
		for len(s) < n {
			s += " 0"
		}
		return s[:n-1] + "7"
	}
	for _, p := range pairs(t) {
		e := api.OK
		if p.Loop() == nil {
			e = api.ErrNone
		}
		for _, s := range []string{"step 1 0 0", "step 11 0 0"} {
			for n := 1900; n <= 2100; n++ {
				want := e
				if n > 2000 {
					want = api.ErrForm
				}
				if _, f := p.says(t, fill(s, n)); f != want && (n-len(s))%2 == 0 {
					p.fatal(t, n, " bytes: ", f)
				}
			}
		}
		for _, n := range []int{1999, 2000, 2001, 4000, 65536, 1 << 20} {
			p.fails(t, api.ErrForm, strings.Repeat("s", n), strings.Repeat(" ", n), strings.Repeat("9", n), "state"+strings.Repeat(" ", n-5), strings.Repeat("state ", n/6), strings.Repeat("\xff", n), "step "+strings.Repeat("9", n-5), strings.Repeat("0 ", n/2))
		}
		p.fails(t, api.ErrForm, "step 1 0 0"+strings.Repeat(" 0", 996), usual+strings.Repeat(" ", 2000), "step"+strings.Repeat(" 1", 1<<19))
	}
}

// P1, P24.1: many texts of mixed bytes, and of mixed words; none of them panics.
func TestTexts(t *testing.T) {
	m := mixer(24)
	words := strings.Split(usual+" "+near+" step run state bytes link limits next 0 1 2 1000 - x 18446744073709551615 18446744073709551616  01", " ")
	for _, p := range pairs(t) {
		for range 20000 {
			var b []byte
			for range m.below(12) {
				b = append(b, byte(m.turn()>>30))
			}
			p.says(t, string(b))
			var l []string
			for range m.below(7) {
				l = append(l, words[m.below(uint64(len(words)))])
			}
			p.says(t, strings.Join(l, " "))
		}
	}
}
