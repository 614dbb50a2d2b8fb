package parse

import (
	"fmt"
	"math"
	"math/big"
	"regexp"
	"strings"
	"testing"

	"aneroid/api"
	"aneroid/conf"
)

// usual is the text of the usual configuration, written out by hand.
const usual = `q 1024 65536 256
loose 16384 4194304 4096
r 274877906944
rground 4398046511104
start 4398046511104 1099511627776 68719476736
floor 256 256 256
ceil 1125899906842624 281474976710656 17592186044416
bound 18014398509481984 562949953421312 8796093022208
gate 9
table 34359738368 17179869184 -1073741824
scale 536870912
rest 2048
clip 32768
hold 32
coast 64
out 1280
band 240
end
`

// shape is the text with a place for each of the 31 numbers.
const shape = "q %d %d %d\nloose %d %d %d\nr %d\nrground %d\nstart %d %d %d\nfloor %d %d %d\nceil %d %d %d\nbound %d %d %d\n" +
	"gate %d\ntable %d %d %d\nscale %d\nrest %d\nclip %d\nhold %d\ncoast %d\nout %d\nband %d\nend\n"

const places = 31

// numbers is a configuration of 31 numbers, in the order of the text.
func numbers(x [places]int64) api.Conf {
	return api.Conf{
		Q: api.Vec{x[0], x[1], x[2]}, Loose: api.Vec{x[3], x[4], x[5]}, R: x[6], RGround: x[7],
		Start: api.Vec{x[8], x[9], x[10]}, Floor: api.Vec{x[11], x[12], x[13]}, Ceil: api.Vec{x[14], x[15], x[16]},
		Bound: api.Vec{x[17], x[18], x[19]}, Gate: x[20], Table: api.Vec{x[21], x[22], x[23]},
		Scale: x[24], Rest: x[25], Clip: x[26], Hold: x[27], Coast: x[28], Out: x[29], Band: x[30],
	}
}

// written is the text of 31 words that stand where numbers should.
func written(words [places]string) string {
	l := make([]any, places)
	for i, w := range words {
		l[i] = w
	}
	return fmt.Sprintf(strings.ReplaceAll(shape, "%d", "%s"), l...)
}

// words are the 31 numbers' words.
func words(x [places]int64) [places]string {
	var l [places]string
	for i, n := range x {
		l[i] = big.NewInt(n).String()
	}
	return l
}

// form is what a text has to look like, but for how great its numbers may be.
var form = regexp.MustCompile(`\A` + strings.ReplaceAll(shape, "%d", `(0|-?[1-9][0-9]*)`) + `\z`)

// wanted is what Get has to answer, in whole numbers of any size.
func wanted(text string) (api.Conf, api.Errno) {
	found := form.FindStringSubmatch(text)
	if found == nil {
		return api.Conf{}, api.ErrForm
	}
	var x [places]int64
	for i, w := range found[1:] {
		n, ok := new(big.Int).SetString(w, 10)
		if !ok || !n.IsInt64() {
			return api.Conf{}, api.ErrForm
		}
		x[i] = n.Int64()
	}
	return numbers(x), api.OK
}

// holds holds all that Get and Load tell of a text against the document.
func holds(t *testing.T, text string) {
	t.Helper()
	c, e := Get(text)
	want, ee := wanted(text)
	if c != want || e != ee {
		t.Errorf("Get %q: %v %d, want %v %d", text, c, e, want, ee)
	}
	if e == api.OK && Put(c) != text {
		t.Errorf("%q isn't the one way, but %q is", text, Put(c))
	}
	rule := 0
	if ee == api.OK {
		if rule = conf.Check(want); rule != 0 {
			want, ee = api.Conf{}, api.ErrRange
		}
	}
	if c, n, e := Load(text); c != want || n != rule || e != ee {
		t.Errorf("Load %q: %v %d %d, want %v %d %d", text, c, n, e, want, rule, ee)
	}
}

// isNone tells that a text is refused by its form.
func isNone(t *testing.T, text string) {
	t.Helper()
	if c, e := Get(text); c != (api.Conf{}) || e != api.ErrForm {
		t.Errorf("Get %q: %v %d", text, c, e)
	}
	if c, n, e := Load(text); c != (api.Conf{}) || n != 0 || e != api.ErrForm {
		t.Errorf("Load %q: %v %d %d", text, c, n, e)
	}
}

func TestUsual(t *testing.T) {
	if s := Put(conf.Default()); s != usual {
		t.Errorf("%q", s)
	}
	if c, e := Get(usual); c != conf.Default() || e != api.OK {
		t.Error(c, e)
	}
	if c, n, e := Load(usual); c != conf.Default() || n != 0 || e != api.OK {
		t.Error(c, n, e)
	}
}

func TestExampleOfTheDocument(t *testing.T) {
	if !strings.Contains(Put(api.Conf{Gate: 9}), "\ngate 9\n") {
		t.Errorf("%q", Put(api.Conf{Gate: 9}))
	}
}

// TestWhereNumbersStand: 31 different numbers, each at its own place.
func TestWhereNumbersStand(t *testing.T) {
	var x [places]int64
	for i := range x {
		x[i] = int64(1000+i) * int64(1-i%2*2)
	}
	text := "q 1000 -1001 1002\nloose -1003 1004 -1005\nr 1006\nrground -1007\nstart 1008 -1009 1010\nfloor -1011 1012 -1013\n" +
		"ceil 1014 -1015 1016\nbound -1017 1018 -1019\ngate 1020\ntable -1021 1022 -1023\nscale 1024\nrest -1025\nclip 1026\n" +
		"hold -1027\ncoast 1028\nout -1029\nband 1030\nend\n"
	if s := Put(numbers(x)); s != text {
		t.Errorf("%q", s)
	}
	if c, e := Get(text); c != numbers(x) || e != api.OK {
		t.Error(c, e)
	}
}

// edges are numbers where a word's length or its sign changes, and the furthest ones.
func edges() []int64 {
	return []int64{
		0, 1, -1, 9, -9, 10, -10, 99, 100, -100, 101, 1 << 40, -1 << 40, 1 << 58, -1 << 58, 1<<58 + 1,
		999999999999999999, 1000000000000000000, -1000000000000000000,
		math.MaxInt64, math.MaxInt64 - 1, math.MinInt64, math.MinInt64 + 1,
	}
}

// TestThereAndBack: each number at each place, the others all 7, and all the same.
func TestThereAndBack(t *testing.T) {
	for _, n := range edges() {
		var all [places]int64
		for i := range places {
			all[i] = n
			x := [places]int64{}
			for j := range x {
				x[j] = 7
			}
			x[i] = n
			back(t, x)
		}
		back(t, all)
	}
	back(t, [places]int64{})
}

// back puts 31 numbers, and gets them again.
func back(t *testing.T, x [places]int64) {
	t.Helper()
	text := Put(numbers(x))
	if want := written(words(x)); text != want {
		t.Errorf("%q, want %q", text, want)
	}
	if c, e := Get(text); c != numbers(x) || e != api.OK {
		t.Error(x, c, e)
	}
	holds(t, text)
}

// draws are fixed rows of numbers.
type draws struct{ x uint64 }

func (d *draws) bits() uint64 {
	d.x = d.x*6364136223846793005 + 1442695040888963407
	return d.x ^ d.x>>29
}

// below is a number from 0 on, below n.
func (d *draws) below(n int) int { return int(d.bits() >> 16 % uint64(n)) }

func TestThereAndBackOfDrawnOnes(t *testing.T) {
	d := &draws{x: 41}
	for range 3000 {
		var x [places]int64
		for i := range x {
			x[i] = int64(d.bits()) >> d.below(64)
		}
		back(t, x)
	}
}

// TestWordsThatAreNoNumbers: at each place, what isn't a number's one word.
func TestWordsThatAreNoNumbers(t *testing.T) {
	for i := range places {
		for _, w := range []string{
			"", "-", "+", "+9", "-0", "+0", "00", "09", "-09", "--9", "9-", "9+", " 9", "9 ", "9 9", "9\n", "\n9", "9\t", "\t9", "9\r",
			"0x9", "0b1", "0o7", "1_000", "1e3", "9.0", ".9", "9,", "a", "9a", "\x009", "9\x00", "\xff", "\xc3\x28", "\u0669", "\uff19", "\u22129", "9\u00a0",
			"9223372036854775808", "-9223372036854775809", "18446744073709551616", "18446744073709551625", "-18446744073709551607",
			"10000000000000000000", "99999999999999999999", "09223372036854775807", "-09223372036854775808",
			"340282366920938463463374607431768211465", strings.Repeat("9", 5000), strings.Repeat("0", 5000) + "9", "nan", "inf",
		} {
			l := words([places]int64{})
			l[i] = w
			text := written(l)
			isNone(t, text)
			holds(t, text)
		}
	}
}

// TestLines: a line that is left out, comes twice, takes another's place, or ends otherwise.
func TestLines(t *testing.T) {
	l := strings.SplitAfter(strings.TrimSuffix(usual, "\n"), "\n")
	l[len(l)-1] += "\n"
	if len(l) != 18 {
		t.Fatal(len(l))
	}
	with := func(i int, s string) string { return strings.Join(l[:i], "") + s + strings.Join(l[i+1:], "") }
	for i, s := range l {
		name, rest, _ := strings.Cut(strings.TrimSuffix(s, "\n"), " ")
		for _, w := range []string{
			"", s + s, s + "\n", "\n" + s, " " + s, strings.TrimSuffix(s, "\n"), strings.TrimSuffix(s, "\n") + " \n",
			strings.TrimSuffix(s, "\n") + "\r\n", strings.TrimSuffix(s, "\n") + "\r", strings.TrimSuffix(s, "\n") + " 7\n",
			strings.Replace(s, "\n", " #\n", 1), "# \n" + s, strings.ToUpper(s), strings.ReplaceAll(s, name, name+name),
			strings.Replace(s, name, "", 1), strings.Replace(s, name, name[1:], 1), strings.Replace(s, name, name+":", 1),
			name + "  " + rest + "\n", name + "\t" + rest + "\n", name + "=" + rest + "\n", name + rest + " \n",
			strings.TrimSuffix(s, "\n") + "\x00\n", "\ufeff" + s,
		} {
			isNone(t, with(i, w))
			holds(t, with(i, w))
		}
		for j := range l[:i] {
			swapped := append([]string{}, l...)
			swapped[i], swapped[j] = l[j], l[i]
			isNone(t, strings.Join(swapped, ""))
		}
		fields := strings.Fields(s)
		if len(fields) > 1 {
			isNone(t, with(i, strings.Join(fields[:len(fields)-1], " ")+"\n"))
			isNone(t, with(i, strings.Join(fields, "\n")+"\n"))
		}
	}
}

// TestPieces: what a text's beginnings, ends and repeats are.
func TestPieces(t *testing.T) {
	for i := range len(usual) {
		isNone(t, usual[:i])
		if i > 0 {
			isNone(t, usual[i:])
		}
	}
	for _, s := range []string{
		usual + usual, usual + "\n", usual + " ", usual + "\x00", usual + "end\n", "\n" + usual, " " + usual, "\x00" + usual, usual[:len(usual)-1],
		"\n", " ", "\x00", "\xff", "end\n", "end", "q", "q ", "q 1", "q 1 2 3\n", strings.Repeat("\n", 18), strings.Repeat(" ", 1<<20),
		strings.Repeat("q 1 2 3\n", 1<<16), strings.ReplaceAll(usual, "\n", "\r\n"), strings.ReplaceAll(usual, "\n", "\r"),
		strings.ReplaceAll(usual, " ", "\t"), strings.ToUpper(usual), "q " + strings.Repeat("1", 1<<20) + " 2 3\n",
	} {
		isNone(t, s)
		holds(t, s)
	}
}

// TestEachByteBent: each byte made another, left out, and every byte put ahead of it.
func TestEachByteBent(t *testing.T) {
	for i := range len(usual) {
		holds(t, usual[:i]+usual[i+1:])
		for b := range 256 {
			holds(t, usual[:i]+string([]byte{byte(b)})+usual[i+1:])
			holds(t, usual[:i]+string([]byte{byte(b)})+usual[i:])
		}
	}
}

// TestAnyBytes: drawn texts, of the bytes that a text may have and of any, and texts with several bytes bent.
func TestAnyBytes(t *testing.T) {
	d := &draws{x: 14}
	const some = "q loose r 0123456789-- \n\nend"
	for range 20000 {
		b := make([]byte, d.below(60))
		for i := range b {
			b[i] = byte(d.bits() >> 8)
			if d.below(3) > 0 {
				b[i] = some[d.below(len(some))]
			}
		}
		holds(t, string(b))
		bent := []byte(usual)
		for range 1 + d.below(3) {
			bent[d.below(len(bent))] = some[d.below(len(some))]
		}
		holds(t, string(bent))
	}
}

// TestLoad: the first rule that isn't kept is told, each one of the 14 once at least.
func TestLoad(t *testing.T) {
	told := map[int]bool{}
	for i := range places {
		for _, w := range []string{"-1", "0", "1", "99999999", "9223372036854775807", "-9223372036854775808"} {
			text := written(bentUsual(i, w))
			holds(t, text)
			_, n, _ := Load(text)
			told[n] = true
		}
	}
	for n := range 15 {
		if !told[n] {
			t.Error(n, "wasn't told")
		}
	}
}

// bentUsual are the usual configuration's words, but for one.
func bentUsual(i int, word string) [places]string {
	var l [places]string
	copy(l[:], form.FindStringSubmatch(usual)[1:])
	l[i] = word
	return l
}

func TestLoadOfWrongOnes(t *testing.T) {
	for _, x := range []struct {
		from, to string
		rule     int
		e        api.Errno
	}{
		{"gate 9", "gate 0", 8, api.ErrRange},
		{"gate 9", "gate 1000", 0, api.OK},
		{"gate 9", "gate 1001", 8, api.ErrRange},
		{"band 240", "band -9223372036854775808", 14, api.ErrRange},
		{"gate 9", "gate 00", 0, api.ErrForm},
		{"q 1024", "q -1", 1, api.ErrRange},
		{"end\n", "end", 0, api.ErrForm},
	} {
		c, n, e := Load(strings.Replace(usual, x.from, x.to, 1))
		if n != x.rule || e != x.e || (c == api.Conf{}) != (e != api.OK) {
			t.Error(x.to, c, n, e)
		}
	}
	// Two rules: the lesser number is told. A rule and the form: the form is.
	both := strings.Replace(strings.Replace(usual, "gate 9", "gate 0", 1), "band 240", "band -1", 1)
	if c, n, e := Load(both); c != (api.Conf{}) || n != 8 || e != api.ErrRange {
		t.Error(c, n, e)
	}
	isNone(t, strings.Replace(both, "end", "End", 1))
	if c, n, e := Load(Put(api.Conf{})); c != (api.Conf{}) || n != 3 || e != api.ErrRange {
		t.Error(c, n, e)
	}
}

// TestAgain: what was answered before doesn't tell on what is answered later.
func TestAgain(t *testing.T) {
	c, _ := Get(usual)
	c.Q[0], c.Gate = 77, 78
	isNone(t, strings.Replace(usual, "end\n", "", 1))
	if d, e := Get(usual); d != conf.Default() || e != api.OK {
		t.Error(d, e)
	}
	if s := Put(c); !strings.Contains(s, "q 77 65536 256\n") || !strings.Contains(s, "gate 78\n") || c.Q[0] != 77 {
		t.Errorf("%q", s)
	}
}
