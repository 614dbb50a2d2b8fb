package script

import (
	"strings"
	"testing"

	"aneroid/api"
	"aneroid/atmos"
	"aneroid/conf"
	"aneroid/parse"
)

// answers are what a script of these lines answers, line by line.
func answers(l ...string) []string {
	told := Run(strings.Join(l, "\n") + "\n")
	if told == "" {
		return nil
	}
	return strings.Split(strings.TrimSuffix(told, "\n"), "\n")
}

// holds holds lines against what each of them has to answer: pairs, one behind the other.
func holds(t *testing.T, pairs ...string) {
	t.Helper()
	var l, want []string
	for i := 0; i < len(pairs); i += 2 {
		l, want = append(l, pairs[i]), append(want, pairs[i+1])
	}
	got := answers(l...)
	if len(got) != len(want) {
		t.Fatalf("%d answers to %d lines: %q", len(got), len(want), got)
	}
	for i := range want {
		if got[i] != want[i] {
			t.Errorf("line %d, %q: %q, want %q", i, l[i], got[i], want[i])
		}
	}
}

// usual is the text of the usual configuration, written out by hand.
const usual = `q 1024 65536 256
loose 16384 4194304 4096
r 274877906944
rground 4398046511104
start 4398046511104 1099511627776 68719476736
floor 256 256 256
ceil 1125899906842624 281474976710656 17592186044416
bound 18014398509481984 562949953421312 8796093022208
gate 9
table 34359738368 17179869184 -1073741824
scale 536870912
rest 2048
clip 32768
hold 32
coast 64
out 1280
band 240
end
`

func TestExamplesOfTheDocument(t *testing.T) {
	holds(t, "altitude 405300", "0", "begin", "ok", "tick 2048", "init 0 0 0")
}

func TestLines(t *testing.T) {
	for text, want := range map[string]string{
		"":                         "",
		"\n":                       "error\n",
		"\n\n":                     "error\nerror\n",
		"check":                    "0\n",
		"check\n":                  "0\n",
		"check\n\n":                "0\nerror\n",
		"\ncheck":                  "error\n0\n",
		"check\nbegin":             "0\nok\n",
		"check\nbegin\n":           "0\nok\n",
		"text":                     usual,
		"text\ncheck\ntext\n":      usual + "0\n" + usual,
		"gate 10\ntext":            "ok\n" + strings.Replace(usual, "gate 9", "gate 10", 1),
		"check\r\ncheck":           "error\n0\n",
		"check\x00":                "error\n",
		"\xff\xfe":                 "error\n",
		"check\u2028check":         "error\n",
		"altitude 405300\v\ncheck": "error\n0\n",
	} {
		if got := Run(text); got != want {
			t.Errorf("%q: %q, want %q", text, got, want)
		}
	}
}

func TestLimits(t *testing.T) {
	full := strings.Repeat("x", 65533) + "\n"
	for _, c := range []struct{ text, want string }{
		{strings.Repeat("x", 65536), "error\n"},
		{strings.Repeat("x", 65537), "long\n"},
		{full + "\n\n", "error\nerror\nerror\n"},
		{full + "\n\n\n", "long\n"},
		{strings.Repeat("\n", 400), strings.Repeat("error\n", 400)},
		{strings.Repeat("\n", 401), "lines\n"},
		{strings.Repeat("\n", 400) + "x", "lines\n"},
		{strings.Repeat("\n", 399) + "x", strings.Repeat("error\n", 400)},
		{strings.Repeat("check\n", 400), strings.Repeat("0\n", 400)},
		{strings.Repeat("check\n", 401), "lines\n"},
		{strings.Repeat("\n", 65536), "lines\n"},
		{strings.Repeat("\n", 65537), "long\n"},
		{strings.Repeat("\n", 1<<20), "long\n"},
		{strings.Repeat("text\n", 400), strings.Repeat(usual, 400)},
		{"altitude 405300" + strings.Repeat(" ", 65536-15), "error\n"},
	} {
		if got := Run(c.text); got != c.want {
			t.Errorf("%d bytes: %d bytes, %.40q", len(c.text), len(got), got)
		}
	}
}

// names are the configuration's lines that have numbers, with how many.
var names = []struct {
	name    string
	numbers int
}{
	{"q", 3}, {"loose", 3}, {"r", 1}, {"rground", 1}, {"start", 3}, {"floor", 3}, {"ceil", 3}, {"bound", 3}, {"gate", 1},
	{"table", 3}, {"scale", 1}, {"rest", 1}, {"clip", 1}, {"hold", 1}, {"coast", 1}, {"out", 1}, {"band", 1},
}

// TestNames: each name's numbers are put in their places, and nothing else.
func TestNames(t *testing.T) {
	for i, n := range names {
		line := n.name + []string{0: " -7", 2: " -9223372036854775808 0 9223372036854775807"}[n.numbers-1]
		want := strings.Split(usual, "\n")
		want[i] = line
		if got := Run(line + "\ntext"); got != "ok\n"+strings.Join(want, "\n") {
			t.Errorf("%q: %q", line, got)
		}
		if got := Run(line + "\ndefault\ntext"); got != "ok\nok\n"+usual {
			t.Errorf("%q: %q", line, got)
		}
	}
	c := api.Conf{
		Q: api.Vec{1, 2, 3}, Loose: api.Vec{4, 5, 6}, R: 7, RGround: 8, Start: api.Vec{9, 10, 11}, Floor: api.Vec{12, 13, 14},
		Ceil: api.Vec{15, 16, 17}, Bound: api.Vec{18, 19, 20}, Gate: 21, Table: api.Vec{22, 23, 24}, Scale: 25, Rest: 26, Clip: 27,
		Hold: 28, Coast: 29, Out: 30, Band: 31,
	}
	text := parse.Put(c)
	if got := Run(text + "text"); got != strings.Repeat("ok\n", 17)+"error\n"+text {
		t.Errorf("%q", got)
	}
}

// TestCheck: each rule, broken by one line alone; the first one, if two are.
func TestCheck(t *testing.T) {
	for i, line := range []string{
		"q -1 0 0", "loose 1023 4194304 4096", "r 1", "rground 1", "ceil -1 0 0", "start 0 0 0", "bound 0 0 0",
		"gate 0", "table -1 0 0", "scale 0", "rest 32768", "hold -1", "out 63", "band -1",
	} {
		rule := []string{"1", "2", "3", "4", "5", "6", "7", "8", "9", "10", "11", "12", "13", "14"}[i]
		holds(t, "check", "0", line, "ok", "check", rule, "begin", "fail 1", "clock", "error", "default", "ok", "check", "0", "begin", "ok", "clock", "clock 0 0")
	}
	holds(t, "band 400001", "ok", "check", "14", "gate 1001", "ok", "check", "8", "gate 1000", "ok", "check", "14", "band 400000", "ok", "check", "0")
}

// TestNumbers: words that are numbers and words that aren't, wherever a number stands.
func TestNumbers(t *testing.T) {
	good := []string{"0", "1", "-1", "10", "9223372036854775807", "-9223372036854775808", "-9223372036854775807", "1000000000000000000"}
	wrong := []string{
		"", "-", "+", "+1", "+0", "-0", "00", "01", "-01", "007", "9223372036854775808", "-9223372036854775809", "18446744073709551616",
		"99999999999999999999999999", "1_0", "0x1", "1e3", "1.0", "1.", ".5", "a", "--1", "1-", "1\t", "\t1", "1\r", "\u0661", "\u0967", "\uff11", "−1", "1\x00", "'1'", "1,",
	}
	shapes := []string{"tick #", "tick # 400000", "tick 2048 #", "short # 400000", "short 2048 #", "again #", "altitude #", "count #"}
	for _, n := range names {
		for i := range n.numbers {
			words := []string{"1", "1", "1"}[:n.numbers]
			words[i] = "#"
			shapes = append(shapes, n.name+" "+strings.Join(words, " "))
		}
	}
	for _, shape := range shapes {
		for _, w := range wrong {
			holds(t, "begin", "ok", strings.ReplaceAll(shape, "#", w), "error", "check", "0", "clock", "clock 0 0")
		}
		if shape == "again #" {
			continue
		}
		for _, w := range good {
			if got := answers("begin", strings.ReplaceAll(shape, "#", w)); got[1] == "error" {
				t.Error(shape, w)
			}
		}
	}
}

// TestWords: first words with fewer and more words behind them than said, of other writing, and with empty words.
func TestWords(t *testing.T) {
	least := map[string]int{"default": 0, "check": 0, "text": 0, "begin": 0, "tick": 1, "short": 2, "again": 1, "state": 0, "doubt": 0, "clock": 0, "altitude": 1, "count": 1}
	most := map[string]int{"tick": 2}
	for _, n := range names {
		least[n.name] = n.numbers
	}
	for name, low := range least {
		high := max(low, most[name])
		for n := range 6 {
			line := name + strings.Repeat(" 1", n)
			if got := answers("begin", line); (got[1] == "error") != (n < low || n > high) {
				t.Errorf("%q: %q", line, got)
			}
		}
		line := name + strings.Repeat(" 1", low)
		for _, w := range []string{
			line + " ", " " + line, "  " + line, line + "\r", "\t" + line, line + "\t", line + " #", line + "  1",
			strings.Replace(line, " ", "  ", 1) + " ", strings.Replace(line, " ", "\t", 1) + " ", strings.ToUpper(name) + line[len(name):],
			name[:len(name)-1] + line[len(name):] + " ", name + name + line[len(name):], "\ufeff" + line, name + "\u00a0" + line[len(name):],
		} {
			holds(t, "begin", "ok", w, "error", "clock", "clock 0 0", "check", "0")
		}
		if low > 0 {
			holds(t, "begin", "ok", strings.Replace(line, " ", "  ", 1), "error", "clock", "clock 0 0", "check", "0")
		}
	}
	for _, w := range []string{"", " ", "  ", "end", "end 1", "ok", "error", "none", "fail", "init 0 0 0", "node 1", "1", "quit", "defaul", "defaults", "ticks 1", "tic 1"} {
		holds(t, "begin", "ok", w, "error", "clock", "clock 0 0", "check", "0")
	}
}

// TestWithoutAChannel: what needs one answers error without it, and takes nothing.
func TestWithoutAChannel(t *testing.T) {
	holds(t, "tick 1", "error", "tick 2048 400000", "error", "short 2048 400000", "error", "again 0", "error", "again 1", "error", "state", "error", "doubt", "error", "clock", "error",
		"check", "0", "default", "ok", "gate 0", "ok", "begin", "fail 1", "tick 1", "error", "clock", "error", "state", "error",
		"gate 9", "ok", "begin", "ok", "again 1", "init 0 0 0", "clock", "clock 0 0", "state", "state 0 0 0", "doubt", "doubt 0 0 0 0 0 0")
	// What wasn't taken isn't the last tick: else this would be the 16th sample.
	holds(t, "tick 2048 400000", "error", "begin", "ok", "again 16", "init 0 0 0", "clock", "clock 0 0")
}

// TestBegin: a new channel stands in place of the one that there was, a failed one doesn't, and a channel doesn't hang on later lines of a configuration.
func TestBegin(t *testing.T) {
	holds(t, "begin", "ok", "tick 2048 405300", "init 0 0 0", "again 15", "track valid accepted 0 0 0", "clock", "clock 1 0",
		"gate 0", "ok", "begin", "fail 1", "clock", "clock 1 0", "again 1", "track valid accepted ground 0 0 0",
		"default", "ok", "begin", "ok", "clock", "clock 0 0", "doubt", "doubt 0 0 0 0 0 0", "state", "state 0 0 0")
	holds(t, "hold 0", "ok", "begin", "ok", "hold 1", "ok", "tick 32768", "lost held 0 0 0", "begin", "ok", "tick 32768", "init held 0 0 0", "again 1", "lost held 0 0 0",
		"check", "0", "gate 0", "ok", "begin", "fail 1", "clock", "clock 3 0", "default", "ok", "clock", "clock 3 0")
}

// TestAgain: at both edges of its number, of each kind of tick, and behind what isn't a tick.
func TestAgain(t *testing.T) {
	holds(t, "begin", "ok", "again 0", "none", "again 200", "init 0 0 0", "again 201", "error", "again -1", "error", "again 9223372036854775807", "error",
		"again -9223372036854775808", "error", "again 4294967296", "error", "again", "error", "again 1 1", "error", "clock", "clock 0 0")
	// Just as many times: 15 of 16 samples don't enter.
	holds(t, "begin", "ok", "tick 2048 405300", "init 0 0 0", "again 14", "init 0 0 0", "clock", "clock 0 0", "again 1", "track valid accepted 0 0 0", "clock", "clock 1 0",
		"tick 2048", "track valid 0 0 0", "again 62", "track valid 0 0 0", "clock", "clock 1 63", "again 1", "coast valid 0 0 0", "clock", "clock 2 64", "again 200", "coast valid 0 0 0", "clock", "clock 2 264")
	// What is no tick that was taken lies between.
	holds(t, "begin", "ok", "tick 2048 405300", "init 0 0 0", "again 0", "none", "tick 1 2 3", "error", "short 2048", "error", "altitude 5", "fail 2", "default", "ok", "tick 01", "error",
		"again 15", "track valid accepted 0 0 0")
	// Only the last one is told: it isn't the one that entered.
	holds(t, "begin", "ok", "tick 2048 405300", "init 0 0 0", "again 200", "track valid accepted ground 0 0 0")
	// A new channel doesn't change which tick was the last one.
	holds(t, "begin", "ok", "tick 2048 405300", "init 0 0 0", "begin", "ok", "again 15", "init 0 0 0", "again 1", "track valid accepted 0 0 0")
}

// TestAgainShort: a short cycle is taken again as one: with a table of zeros its samples are taken, but make the doubt no less than ticks without a count do.
func TestAgainShort(t *testing.T) {
	doubt := func(line string) string {
		l := answers("table 0 0 0", "begin", "tick 2048 405300", "again 15", line, "again 5", "doubt")
		return l[len(l)-1]
	}
	if short, none := doubt("short 2048 405300"), doubt("tick 2048"); short != none {
		t.Errorf("%q, want %q", short, none)
	}
	if short, long := doubt("short 2048 405300"), doubt("tick 2048 405300"); short == long {
		t.Errorf("%q", short)
	}
}

// TestTold: each mode and each mark.
func TestTold(t *testing.T) {
	holds(t, "hold 1", "ok", "coast 1", "ok", "out 2", "ok", "begin", "ok", "tick 32768", "init held 0 0 0", "tick 2048 405300", "init 0 0 0", "again 14", "init 0 0 0",
		"tick 32768 405300", "track valid accepted held 0 0 0",
		"tick 2048 405300", "track valid accepted ground 0 0 0",
		"tick 2048", "coast valid 0 0 0",
		"tick 2048 405300", "track valid accepted ground 0 0 0",
		"tick 2048 90528", "coast valid refused 0 0 0",
		"tick 2048 430515", "track valid accepted ground 0 0 0")
}

// TestAtmos: altitudes and counts, as layer 6 has them, and its errors.
func TestAtmos(t *testing.T) {
	holds(t, "altitude 405300", "0", "altitude 430515", "-562949953421312", "altitude 430516", "fail 2", "altitude 90527", "fail 2", "altitude 0", "fail 2", "altitude -405300", "fail 2",
		"altitude 393149", "281474976710656", "altitude 4295372596", "fail 2", "count 0", "405300", "count 281474976710656", "393149", "count -562949953421312", "430515",
		"count -562949953421313", "430515", "count -9223372036854775808", "430515", "count 9223372036854775807", "fail 2", "count 1", "405299")
	top, _ := atmos.Altitude(api.Low)
	holds(t, "altitude 90528", number(top), "count "+number(top), "90528", "count "+number(top+1), "fail 2")
}

// TestState: the numbers of state and doubt, as they stand in the channel, with a point.
func TestState(t *testing.T) {
	h, _ := atmos.Altitude(400000)
	holds(t, "begin", "ok", "tick 2048 400000", "init 0 0 0", "again 14", "init 0 0 0", "state", "state 0 0 0", "again 1", "track valid accepted "+number((h+1<<23)>>24)+" 0 0",
		"state", "state "+number(h)+" 0 0", "doubt", "doubt 4398046511104 0 0 1099511627776 0 68719476736",
		// A thrust of 1 m a second and second, a tick long: altitude 2^-15, speed 2^-7.
		"tick 4096", "track valid "+number((h+1<<25+1<<23)>>24)+" 512 0", "state", "state "+number(h+1<<25)+" 8589934592 0", "clock", "clock 1 1")
	if c := conf.Default(); c.Scale*2048 != 1<<40 {
		t.Error(c.Scale)
	}
}
