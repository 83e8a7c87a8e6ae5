package conf_test

import (
	"fmt"
	"math"
	"math/big"
	"regexp"
	"slices"
	"strings"
	"testing"

	"goit/api"
	"goit/conf"
)

const greatest = math.MaxUint64

// standard is the default setup, and its text, as the document writes them.
var standard = api.Conf{MSS: 1500, Init: 10, Reorder: 3, Window: 10000000, ProbeLen: 200000, Loss: 20}

const standardText = "mss 1500 init 10 reorder 3 window 10000000 probe 200000 loss 20"

// numbers is a setup's, in the order of its text.
type numbers [6]uint64

// The words of a text, and the least and the greatest number behind each, as the document writes them.
var (
	words = [6]string{"mss", "init", "reorder", "window", "probe", "loss"}
	least = numbers{1, 4, 1, 1, 1, 0}
	most  = numbers{65535, 1000, 100, 1 << 40, 1 << 40, 1000}
)

func numbersOf(c api.Conf) numbers {
	return numbers{c.MSS, c.Init, c.Reorder, c.Window, c.ProbeLen, c.Loss}
}

func (n numbers) setup() api.Conf {
	return api.Conf{MSS: n[0], Init: n[1], Reorder: n[2], Window: n[3], ProbeLen: n[4], Loss: n[5]}
}

func (n numbers) right() bool {
	for i, x := range n {
		if x < least[i] || x > most[i] {
			return false
		}
	}
	return true
}

func (n numbers) text() string {
	return fmt.Sprintf("mss %d init %d reorder %d window %d probe %d loss %d", n[0], n[1], n[2], n[3], n[4], n[5])
}

// edges are the numbers at, below and above a field's limits.
func edges(i int) []uint64 {
	l := []uint64{least[i], least[i] + 1, most[i], most[i] + 1}
	if least[i] > 0 {
		l = append(l, least[i]-1)
	}
	return l
}

// eachSetup calls f with setups that have all fields at all of their edges.
func eachSetup(f func(n numbers)) {
	var n numbers
	var fill func(i int)
	fill = func(i int) {
		if i == len(n) {
			f(n)
			return
		}
		for _, x := range edges(i) {
			n[i] = x
			fill(i + 1)
		}
	}
	fill(0)
}

// eachWith calls f with the default setup, with one field at each number that is far off, or that is in the limits just if some of its bits are left out.
func eachWith(f func(n numbers)) {
	for i := range words {
		for _, x := range []uint64{0, 1 << 16, 1<<16 + 10, 1 << 31, 1 << 32, 1<<32 + 10, 1<<40 - 1, 1<<40 + 1, 1<<41 + 10, 1 << 63, 1<<63 + 10, greatest - 1, greatest} {
			n := numbersOf(standard)
			n[i] = x
			f(n)
		}
	}
}

func large(x uint64) *big.Int { return new(big.Int).SetUint64(x) }

func times(a, b uint64) *big.Int { return new(big.Int).Mul(large(a), large(b)) }

// told is a number without a bound, as the document tells it.
func told(x *big.Int) uint64 {
	if x.Cmp(large(greatest)) > 0 {
		return greatest
	}
	return x.Uint64()
}

// far are numbers up to the greatest one, with those where products begin to be above it.
func far() []uint64 {
	l := []uint64{0, 1, 2, 3, 4, 5, 10, 63, 64, 65, 999, 1000, 1001, 1500, 65535, 65536, 999999, 1000000, 1000001, 4000999, 1<<32 - 1, 1 << 32, 1<<32 + 1, 1 << 40, 1<<40 + 1, 1 << 42, 1 << 56, greatest - 1, greatest}
	for _, by := range []uint64{2, 4, 10, 64, 1000, 1500, 1000000} {
		l = append(l, greatest/by, greatest/by+1)
	}
	return l
}

// P3.1 (O1: Default).
func TestDefault(t *testing.T) {
	c := conf.Default()
	if c != standard {
		t.Errorf("Default: %v", c)
	}
	if !conf.Right(c) {
		t.Error("Default may not be")
	}
	if conf.Least(c) != 6000 || conf.First(c) != 15000 {
		t.Errorf("Default: %d and %d bytes", conf.Least(c), conf.First(c))
	}
	c.MSS, c.Loss = 7, 7
	if again := conf.Default(); again != standard {
		t.Errorf("Default, then: %v", again)
	}
}

// P3.1 (O1: Right), field by field.
func TestRightFields(t *testing.T) {
	for i, word := range words {
		for x, want := range map[uint64]bool{least[i]: true, least[i] + 1: true, most[i] - 1: true, most[i]: true, most[i] + 1: false, greatest: false} {
			n := numbersOf(standard)
			n[i] = x
			if got := conf.Right(n.setup()); got != want {
				t.Errorf("%s %d: %t", word, x, got)
			}
		}
		if least[i] == 0 {
			continue
		}
		n := numbersOf(standard)
		n[i] = least[i] - 1
		if conf.Right(n.setup()) {
			t.Errorf("%s %d: true", word, n[i])
		}
	}
	if conf.Right(api.Conf{}) {
		t.Error("the empty setup: true")
	}
}

// P3.1 (O1: Right), all fields together.
func TestRight(t *testing.T) {
	right, wrong := 0, 0
	look := func(n numbers) {
		if n.right() {
			right++
		} else {
			wrong++
		}
		if got := conf.Right(n.setup()); got != n.right() {
			t.Errorf("%s: %t", n.text(), got)
		}
	}
	eachSetup(look)
	eachWith(look)
	if right == 0 || wrong == 0 {
		t.Errorf("not all was looked at: %d %d", right, wrong)
	}
}

// P3.1 (O1: Least, First), case by case.
func TestPackets(t *testing.T) {
	for _, x := range []struct{ mss, init, least, first uint64 }{
		{1, 4, 4, 4},
		{1500, 10, 6000, 15000},
		{65535, 1000, 262140, 65535000},
		{0, 10, 0, 0},
		{1500, 0, 6000, 0},
		{1<<62 - 1, 4, greatest - 3, greatest - 3},
		{1 << 62, 4, greatest, greatest},
		{1 << 62, 3, greatest, 3 << 62},
		{greatest, 1, greatest, greatest},
		{1<<32 + 1, 1<<32 - 1, 4<<32 + 4, greatest},
		{1 << 32, 1 << 32, 4 << 32, greatest},
		{greatest, greatest, greatest, greatest},
	} {
		c := standard
		c.MSS, c.Init = x.mss, x.init
		if got := conf.Least(c); got != x.least {
			t.Errorf("Least, of packets of %d: %d, not %d", x.mss, got, x.least)
		}
		if got := conf.First(c); got != x.first {
			t.Errorf("First, of %d packets of %d: %d, not %d", x.init, x.mss, got, x.first)
		}
	}
}

// P3.1 (O1: Least, First), against products without a bound.
func TestPacketsFar(t *testing.T) {
	for _, mss := range far() {
		for _, init := range far() {
			c := api.Conf{MSS: mss, Init: init}
			if got, want := conf.Least(c), told(times(4, mss)); got != want {
				t.Errorf("Least, of packets of %d: %d, not %d", mss, got, want)
			}
			if got, want := conf.First(c), told(times(init, mss)); got != want {
				t.Errorf("First, of %d packets of %d: %d, not %d", init, mss, got, want)
			}
		}
	}
}

// P3.1 (O1: Quantum), case by case.
func TestQuantum(t *testing.T) {
	for _, x := range []struct{ mss, rate, want uint64 }{
		// two packets at least
		{1500, 0, 3000},
		{1500, 1, 3000},
		{1500, 2999999, 3000},
		{1500, 3000000, 3000},
		{1500, 3000999, 3000},
		// between
		{1500, 3001000, 3001},
		{1500, 3001999, 3001},
		{1500, 4000999, 4000},
		{1500, 95999999, 95999},
		// 64 packets at most
		{1500, 96000000, 96000},
		{1500, 96000999, 96000},
		{1500, 96001000, 96000},
		{1500, 1 << 40, 96000},
		{1500, greatest, 96000},
		{1, 0, 2},
		{1, 2999, 2},
		{1, 3000, 3},
		{1, 63999, 63},
		{1, 64000, 64},
		{1, 65000, 64},
		{65535, 0, 131070},
		{65535, 1 << 31, 2147483},
		{65535, 4194240000 - 1, 4194239},
		{65535, greatest, 4194240},
		// packets without bytes
		{0, 0, 0},
		{0, greatest, 0},
		// products above the greatest number
		{1 << 58, 0, 1 << 59},
		{1 << 58, greatest, 1 << 59},
		{1 << 53, greatest, 18446744073709551},
		{1 << 63, 0, greatest},
		{1<<63 - 1, 0, greatest - 1},
		{greatest, 0, greatest},
		{greatest, greatest, greatest},
	} {
		c := standard
		c.MSS = x.mss
		if got := conf.Quantum(c, x.rate); got != x.want {
			t.Errorf("Quantum, of packets of %d, at %d: %d, not %d", x.mss, x.rate, got, x.want)
		}
	}
}

// P3.1 (O1: Quantum), against products without a bound.
func TestQuantumFar(t *testing.T) {
	few, some, many := 0, 0, 0
	for _, mss := range far() {
		for _, rate := range far() {
			want := new(big.Int).Quo(large(rate), big.NewInt(1000))
			switch {
			case want.Cmp(times(2, mss)) < 0:
				few++
				want = times(2, mss)
			case want.Cmp(times(64, mss)) > 0:
				many++
				want = times(64, mss)
			default:
				some++
			}
			if got := conf.Quantum(api.Conf{MSS: mss}, rate); got != told(want) {
				t.Errorf("Quantum, of packets of %d, at %d: %d, not %d", mss, rate, got, told(want))
			}
		}
	}
	if few == 0 || some == 0 || many == 0 {
		t.Errorf("not all was looked at: %d %d %d", few, some, many)
	}
}

// P3.1 (O1: Flight), case by case.
func TestFlight(t *testing.T) {
	for _, x := range []struct{ rate, time, want uint64 }{
		{0, 0, 0},
		{0, 9, 0},
		{9, 0, 0},
		{0, greatest, 0},
		{greatest, 0, 0},
		{1, 1, 1},
		{1, 999999, 1},
		{1, 1000000, 1},
		{1, 1000001, 2},
		{3, 1000000, 3},
		{3, 1000001, 4},
		{1000000, 1, 1},
		{1000001, 1, 2},
		{1500000, 1000, 1500},
		{1 << 40, 1 << 40, 1208925819614629175},
		{greatest, 1000000, greatest},
		{1000000, greatest, greatest},
		// products above the greatest number, and what is above it behind the division
		{greatest, 999999, 18446725626965477906},
		{1 << 42, 1 << 42, greatest},
		{greatest, 1000001, greatest},
		{greatest, greatest, greatest},
	} {
		if got := conf.Flight(x.rate, x.time); got != x.want {
			t.Errorf("Flight, at %d, of %d: %d, not %d", x.rate, x.time, got, x.want)
		}
	}
}

// P3.1 (O1: Flight), against products without a bound.
func TestFlightFar(t *testing.T) {
	for _, rate := range far() {
		for _, time := range far() {
			want, left := new(big.Int).QuoRem(times(rate, time), big.NewInt(1000000), new(big.Int))
			if left.Sign() > 0 {
				want.Add(want, big.NewInt(1))
			}
			if got := conf.Flight(rate, time); got != told(want) {
				t.Errorf("Flight, at %d, of %d: %d, not %d", rate, time, got, told(want))
			}
		}
	}
}

// P3.1 (O2: Print), of a setup that may be and of one that may not.
func TestPrint(t *testing.T) {
	if s, err := conf.Print(standard); s != standardText || err != api.OK {
		t.Errorf("Print of the default: %q %d", s, err)
	}
	if s, err := conf.Print(api.Conf{}); s != "" || err != api.ErrArg {
		t.Errorf("Print of the empty setup: %q %d", s, err)
	}
	look := func(n numbers) {
		want, wantErr := n.text(), api.OK
		if !n.right() {
			want, wantErr = "", api.ErrArg
		}
		if s, err := conf.Print(n.setup()); s != want || err != wantErr {
			t.Errorf("Print of %v: %q %d", n, s, err)
		}
	}
	eachSetup(look)
	eachWith(look)
}

// form is that of a text, needless noughts and all limits left aside.
var form = regexp.MustCompile(`\Amss ([0-9]+) init ([0-9]+) reorder ([0-9]+) window ([0-9]+) probe ([0-9]+) loss ([0-9]+)\z`)

// parsed is the setup that O2 asks for; numbers have no bound here.
func parsed(s string) (api.Conf, api.Errno) {
	found := form.FindStringSubmatch(s)
	if found == nil {
		return api.Conf{}, api.ErrForm
	}
	var n numbers
	for i := range n {
		figures := found[i+1]
		if len(figures) > 1 && figures[0] == '0' {
			return api.Conf{}, api.ErrForm
		}
		x, _ := new(big.Int).SetString(figures, 10)
		if x.Cmp(large(least[i])) < 0 || x.Cmp(large(most[i])) > 0 {
			return api.Conf{}, api.ErrForm
		}
		n[i] = x.Uint64()
	}
	return n.setup(), api.OK
}

// look holds Parse against O2, and tells whether the text is a setup's.
func look(t *testing.T, s string) bool {
	t.Helper()
	want, wantErr := parsed(s)
	c, err := conf.Parse(s)
	if c != want || err != wantErr {
		t.Errorf("Parse of %q: %v %d, not %v %d", s, c, err, want, wantErr)
	}
	return wantErr == api.OK
}

// refused holds that a text is no setup's.
func refused(t *testing.T, s string) {
	t.Helper()
	if c, err := conf.Parse(s); c != (api.Conf{}) || err != api.ErrForm {
		t.Errorf("Parse of %q: %v %d, not ErrForm", s, c, err)
	}
}

// P3.1 (O2: Parse), of what is a setup's text, and of one whose numbers are beyond the limits.
func TestParse(t *testing.T) {
	for s, want := range map[string]api.Conf{
		standardText: standard,
		"mss 1 init 4 reorder 1 window 1 probe 1 loss 0":                                     {MSS: 1, Init: 4, Reorder: 1, Window: 1, ProbeLen: 1, Loss: 0},
		"mss 65535 init 1000 reorder 100 window 1099511627776 probe 1099511627776 loss 1000": {MSS: 65535, Init: 1000, Reorder: 100, Window: 1 << 40, ProbeLen: 1 << 40, Loss: 1000},
		"mss 12 init 34 reorder 56 window 78 probe 90 loss 100":                              {MSS: 12, Init: 34, Reorder: 56, Window: 78, ProbeLen: 90, Loss: 100},
	} {
		if c, err := conf.Parse(s); c != want || err != api.OK {
			t.Errorf("Parse of %q: %v %d", s, c, err)
		}
	}
	right, wrong := 0, 0
	ask := func(n numbers) {
		if look(t, n.text()) {
			right++
		} else {
			wrong++
		}
	}
	eachSetup(ask)
	eachWith(ask)
	if right == 0 || wrong == 0 {
		t.Errorf("not all was looked at: %d %d", right, wrong)
	}
}

// P3.1 (O2: Parse), of texts that are nobody's.
func TestParseNone(t *testing.T) {
	for _, s := range []string{
		"", " ", "  ", "0", "mss", "mss ", "mss 1500", "mss 1500 ", "loss 20",
		strings.Repeat(" ", 11), strings.Repeat(" ", 12), strings.Repeat("0 ", 6), strings.Repeat(" 1", 6), strings.Repeat("1 ", 12),
		"1500 10 3 10000000 200000 20",
		"mss init reorder window probe loss 1500 10 3 10000000 200000 20",
		strings.ReplaceAll(standardText, " ", ""),
		strings.ReplaceAll(standardText, " ", "  "),
		strings.ReplaceAll(standardText, " ", "\t"),
		strings.ReplaceAll(standardText, " ", "\n"),
		strings.ReplaceAll(standardText, " ", "\u00a0"),
		strings.ToUpper(standardText),
		"M" + standardText[1:],
		strings.Replace(standardText, "probe", "probelen", 1),
		strings.Replace(standardText, "mss", "ms", 1),
		strings.Replace(standardText, "loss", "lo\u017f\u017f", 1),
		standardText + standardText, standardText + " " + standardText, standardText + "\x00", "\ufeff" + standardText,
	} {
		refused(t, s)
	}
	for _, more := range []string{" ", "\n", "\r\n", "\t", "\x00", ".", "x", ";", " 0", " 20", " x", " mss", " mss 1500", " loss 20", " # more"} {
		refused(t, standardText+more)
		refused(t, more+standardText)
	}
}

// P3.1 (O2: Parse), with each number written in other ways.
func TestParseFigures(t *testing.T) {
	pieces := strings.Split(standardText, " ")
	for i := range words {
		figures := pieces[2*i+1]
		wrapped := new(big.Int).Lsh(big.NewInt(1), 64)
		wrapped.Add(wrapped, large(numbersOf(standard)[i]))
		for _, other := range []string{
			"", "0" + figures, "00" + figures, "00", "000", "+" + figures, "-" + figures, "-0", "+0", "+", "-", "--1",
			"0x" + figures, "0b1", "0o7", "0x5", "1_0", "_" + figures, figures + "_", figures + ".", figures + ".0", "." + figures, figures + "e0", "1e1", figures + ",", "1,0",
			figures + "u", "x", "ten", "a", "inf", "nan", "\"" + figures + "\"", "(" + figures + ")", "\u0661", "\uff11", "\xff", "\x00", figures + "\x00",
			"18446744073709551615", "18446744073709551616", wrapped.String(), strings.Repeat("9", 100), "1" + strings.Repeat("0", 1000), strings.Repeat("0", 1000) + figures,
		} {
			changed := slices.Clone(pieces)
			changed[2*i+1] = other
			refused(t, strings.Join(changed, " "))
		}
	}
}

// P3.1 (O2: Parse), with pieces missing, twice, and in another order.
func TestParsePieces(t *testing.T) {
	pieces := strings.Split(standardText, " ")
	for i := range pieces {
		refused(t, strings.Join(slices.Delete(slices.Clone(pieces), i, i+1), " "))
		refused(t, strings.Join(slices.Insert(slices.Clone(pieces), i, pieces[i]), " "))
		refused(t, strings.Join(pieces[:i], " "))
		refused(t, strings.Join(pieces[:i], " ")+" ")
		for j := range i {
			changed := slices.Clone(pieces)
			changed[i], changed[j] = changed[j], changed[i]
			look(t, strings.Join(changed, " ")) // some numbers may stand for one another
		}
	}
	for i := range words {
		refused(t, strings.Join(slices.Delete(slices.Clone(pieces), 2*i, 2*i+2), " "))
		for j := range words {
			twice := slices.Insert(slices.Clone(pieces), 2*j, pieces[2*i], pieces[2*i+1])
			refused(t, strings.Join(twice, " "))
			if i != j {
				instead := slices.Clone(pieces)
				instead[2*j], instead[2*j+1] = pieces[2*i], pieces[2*i+1]
				refused(t, strings.Join(instead, " "))
				renamed := slices.Clone(pieces)
				renamed[2*j] = pieces[2*i]
				refused(t, strings.Join(renamed, " "))
			}
		}
	}
}

// P3.1 (O2: Parse), with the fields in all orders; the numbers are such that each may stand behind each word.
func TestParseOrder(t *testing.T) {
	fields := []string{"mss 11", "init 12", "reorder 13", "window 14", "probe 15", "loss 16"}
	right := 0
	var order func(ahead, rest []string)
	order = func(ahead, rest []string) {
		if len(rest) == 0 && look(t, strings.Join(ahead, " ")) {
			right++
		}
		for i, x := range rest {
			order(append(slices.Clone(ahead), x), slices.Delete(slices.Clone(rest), i, i+1))
		}
	}
	order(nil, fields)
	if right != 1 {
		t.Errorf("%d orders are right", right)
	}
}

// P3.1 (O2: Parse), with one byte more, less, or another one, at each place.
func TestParseBytes(t *testing.T) {
	right := 0
	ask := func(s string) {
		if look(t, s) {
			right++
		}
	}
	for _, s := range []string{standardText, least.text(), most.text()} {
		for i := range len(s) + 1 {
			ask(s[:i])
			ask(s[i:])
			for b := range 256 {
				ask(s[:i] + string([]byte{byte(b)}) + s[i:])
				if i < len(s) {
					ask(s[:i] + string([]byte{byte(b)}) + s[i+1:])
				}
			}
			if i < len(s) {
				ask(s[:i] + s[i+1:])
			}
		}
		for _, i := range regexp.MustCompile(" ").FindAllStringIndex(s, -1) {
			refused(t, s[:i[0]]+s[i[1]:])
			refused(t, s[:i[0]]+"  "+s[i[1]:])
		}
	}
	if right == 0 {
		t.Error("none was right")
	}
}

// P1: a long text ends as a short one does.
func TestParseLong(t *testing.T) {
	const n = 1 << 20
	for _, s := range []string{" ", "0", "1", "9", "mss ", "mss 1 ", standardText + " ", "\xff"} {
		long := strings.Repeat(s, n/len(s))
		refused(t, long)
		refused(t, standardText+long)
		refused(t, long+standardText)
	}
}

// there holds that a setup that may be is parsed from its text, and that this has it.
func there(t *testing.T, c api.Conf) {
	t.Helper()
	s, err := conf.Print(c)
	if err != api.OK {
		t.Fatalf("Print of %v: %d", c, err)
	}
	back, err := conf.Parse(s)
	if back != c || err != api.OK {
		t.Errorf("%v is printed as %q, and parsed as %v %d", c, s, back, err)
	}
}

// P3.2: a setup is parsed from its text.
func TestThereAndBack(t *testing.T) {
	there(t, conf.Default())
	eachSetup(func(n numbers) {
		if n.right() {
			there(t, n.setup())
		}
	})
	// Field by field: all of its numbers, or, of times, those that are near a power of two or of ten.
	for i := range words {
		n := numbersOf(standard)
		for x := least[i]; x <= min(most[i], 1<<16); x++ {
			n[i] = x
			there(t, n.setup())
		}
		for _, by := range []uint64{2, 10} {
			for x := by; x <= most[i]; x *= by {
				for _, near := range []uint64{x - 1, x, x + 1} {
					if n[i] = near; n.right() {
						there(t, n.setup())
					}
				}
			}
		}
	}
}

// P3.2: what is parsed has the text.
func TestBackAndThere(t *testing.T) {
	right := 0
	ask := func(s string) {
		c, err := conf.Parse(s)
		if err != api.OK {
			return
		}
		right++
		if text, err := conf.Print(c); text != s || err != api.OK {
			t.Errorf("%q is parsed as %v, and printed as %q %d", s, c, text, err)
		}
	}
	eachSetup(func(n numbers) { ask(n.text()) })
	for i := range len(standardText) + 1 {
		for b := range 256 {
			ask(standardText[:i] + string([]byte{byte(b)}) + standardText[i:])
		}
	}
	for _, ahead := range []string{"", " ", "+", "-", "0", "00", "\n"} {
		for _, figures := range []string{"", "0", "1", "4", "9", "10", "99"} {
			for _, behind := range []string{"", " ", ".", "0", "\n"} {
				x := ahead + figures + behind
				ask(strings.Join([]string{"mss", x, "init", x, "reorder", x, "window", x, "probe", x, "loss", x}, " "))
				ask("mss 1500 init 10 reorder 3 window 10000000 probe 200000 loss " + x)
			}
		}
	}
	if right == 0 {
		t.Error("none was parsed")
	}
}

// P2: a call answers the same whatever was called ahead of it.
func TestArgumentsAlone(t *testing.T) {
	type answers struct {
		right                         bool
		least, first, quantum, flight uint64
		text                          string
		setup                         api.Conf
		printErr, parseErr            api.Errno
	}
	ask := func(n numbers) (a answers) {
		c := n.setup()
		a.right, a.least, a.first = conf.Right(c), conf.Least(c), conf.First(c)
		a.quantum, a.flight = conf.Quantum(c, c.Window), conf.Flight(c.Window, c.ProbeLen)
		a.text, a.printErr = conf.Print(c)
		a.setup, a.parseErr = conf.Parse(n.text())
		return a
	}
	var asked []numbers
	var first []answers
	eachSetup(func(n numbers) {
		asked = append(asked, n)
		first = append(first, ask(n))
	})
	for i := range asked {
		last := len(asked) - 1 - i
		if again := ask(asked[last]); again != first[last] {
			t.Errorf("%v: first %v, then %v", asked[last], first[last], again)
		}
	}
}

// P3.1 and P3.2, of whatever comes (its seeds alone, unless it is run by go test -fuzz).
func FuzzParse(f *testing.F) {
	for _, s := range []string{"", standardText, least.text(), most.text(), standardText + " ", " " + standardText} {
		f.Add(s)
	}
	f.Fuzz(func(t *testing.T, s string) {
		if look(t, s) {
			c, _ := conf.Parse(s)
			there(t, c)
		}
	})
}
