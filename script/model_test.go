package script

import (
	"math/big"
	"regexp"
	"slices"
	"strings"
	"testing"

	"aneroid/api"
	"aneroid/atmos"
	"aneroid/channel"
	"aneroid/conf"
	"aneroid/parse"
)

// number is a number's word.
func number(x int64) string { return big.NewInt(x).String() }

// model is a script that remembers all ticks, and takes them anew at each line: nothing is handed on from line to line but these.
type model struct {
	conf, begun api.Conf
	live        bool
	ticks       []api.Tick
	last        api.Tick
}

// shapes are what lines look like, but for how great numbers may be.
var shapes = regexp.MustCompile(`\A(?:` + strings.ReplaceAll(
	`(default|check|text|begin|state|doubt|clock)|(tick|again|altitude|count) #|(tick|short) # #|(r|rground|gate|scale|rest|clip|hold|coast|out|band) #|(q|loose|start|floor|ceil|bound|table) # # #`,
	"#", `(0|-?[1-9][0-9]*)`) + `)\z`)

// answer is what a line has to answer.
func (m *model) answer(line string) string {
	found := shapes.FindStringSubmatch(line)
	if found == nil {
		return "error"
	}
	var n []int64
	for _, w := range found[1:] {
		if w == "" || !strings.Contains("-0123456789", w[:1]) {
			continue
		}
		x, _ := new(big.Int).SetString(w, 10)
		if !x.IsInt64() {
			return "error"
		}
		n = append(n, x.Int64())
	}
	word := strings.Fields(line)[0]
	if strings.Contains(" tick short again state doubt clock ", " "+word+" ") {
		if !m.live {
			return "error"
		}
		return m.flown(word, n)
	}
	return m.still(word, n)
}

// still is what a line that needs no channel answers.
func (m *model) still(word string, n []int64) string {
	switch word {
	case "default":
		m.conf = conf.Default()
	case "check":
		return number(int64(conf.Check(m.conf)))
	case "text":
		return strings.TrimSuffix(parse.Put(m.conf), "\n")
	case "begin":
		if conf.Check(m.conf) != 0 {
			return "fail 1"
		}
		m.begun, m.live, m.ticks = m.conf, true, nil
	case "altitude", "count":
		x, e := atmos.Altitude(n[0])
		if word == "count" {
			x, e = atmos.Count(n[0])
		}
		if e != api.OK {
			return "fail " + number(int64(e))
		}
		return number(x)
	default:
		at := map[string][]*int64{
			"q": row(&m.conf.Q), "loose": row(&m.conf.Loose), "start": row(&m.conf.Start), "floor": row(&m.conf.Floor), "ceil": row(&m.conf.Ceil),
			"bound": row(&m.conf.Bound), "table": row(&m.conf.Table), "r": {&m.conf.R}, "rground": {&m.conf.RGround}, "gate": {&m.conf.Gate},
			"scale": {&m.conf.Scale}, "rest": {&m.conf.Rest}, "clip": {&m.conf.Clip}, "hold": {&m.conf.Hold}, "coast": {&m.conf.Coast},
			"out": {&m.conf.Out}, "band": {&m.conf.Band},
		}[word]
		for i, x := range n {
			*at[i] = x
		}
	}
	return "ok"
}

func row(v *api.Vec) []*int64 { return []*int64{&v[0], &v[1], &v[2]} }

// flown is what a line that needs a channel answers.
func (m *model) flown(word string, n []int64) string {
	more := 0
	switch {
	case word == "again":
		if n[0] < 0 || n[0] > 200 {
			return "error"
		}
		if n[0] == 0 {
			return "none"
		}
		more = int(n[0])
	case word == "tick" && len(n) == 1:
		m.last, more = api.Tick{Accel: n[0]}, 1
	case word == "tick" || word == "short":
		m.last, more = api.Tick{Accel: n[0], Has: true, Press: n[1], Short: word == "short"}, 1
	}
	for range more {
		m.ticks = append(m.ticks, m.last)
	}
	k, _ := channel.New(m.begun)
	var told api.Told
	for _, t := range m.ticks {
		told = k.Step(t)
	}
	words := []string{word}
	add := func(l ...int64) {
		for _, x := range l {
			words = append(words, number(x))
		}
	}
	x, p := k.State()
	mode, since := k.Clock()
	switch word {
	case "state":
		add(x[0], x[1], x[2])
	case "doubt":
		add(p[0], p[1], p[2], p[3], p[4], p[5])
	case "clock":
		add(int64(mode), int64(since))
	default:
		words = []string{"init"}
		switch told.Mode {
		case api.Track:
			words[0] = "track"
		case api.Coast:
			words[0] = "coast"
		case api.Lost:
			words[0] = "lost"
		}
		if told.Valid {
			words = append(words, "valid")
		}
		if told.Accepted {
			words = append(words, "accepted")
		}
		if told.Refused {
			words = append(words, "refused")
		}
		if told.Held {
			words = append(words, "held")
		}
		if told.Ground {
			words = append(words, "ground")
		}
		add(told.Alt, told.Speed, told.Bias)
	}
	return strings.Join(words, " ")
}

// wanted is what the model answers to lines, each with a line feed.
func wanted(l []string) []string {
	m := model{conf: conf.Default()}
	var told []string
	for _, line := range l {
		told = append(told, m.answer(line)+"\n")
	}
	return told
}

// draws are fixed rows of numbers.
type draws struct{ x uint64 }

func (d *draws) below(n int) int {
	d.x = d.x*6364136223846793005 + 1442695040888963407
	return int(d.x >> 33 % uint64(n))
}

func (d *draws) of(l ...string) string { return l[d.below(len(l))] }

// line is a drawn line: now and then one that isn't as said.
func (d *draws) line() string {
	count := number(int64(399900 + d.below(200)))
	accel := number(int64(2040 + d.below(17)))
	switch d.below(40) {
	case 0:
		return d.of("default", "check", "text")
	case 1:
		return d.of("hold 0", "hold 2", "coast 1", "coast 20", "out 3", "out 64", "out 1280", "gate 1", "gate 1000", "band 0", "band 400000", "scale 1099511627776", "clip 2049", "clip 131072")
	case 2:
		return d.of("q 0 0 0", "loose 1125899906842624 1125899906842624 1125899906842624", "start 256 256 256", "table 1099511627776 0 0", "table 0 0 0", "floor 0 0 0",
			"bound 18014398509481984 0 0", "r 1125899906842624", "rground 1125899906842624", "rest -2048", "ceil 256 256 256", "gate 0", "hold -1", "floor -1 0 0")
	case 3, 4:
		return "begin"
	case 5:
		return "altitude " + d.of(count, "90527", "90528", "430515", "430516", "-1")
	case 6:
		return "count " + d.of("0", "1", "-1", count+"000000000", "-"+count, "9223372036854775807", "-9223372036854775808", "9223372036854775808")
	case 7, 8:
		return d.of("state", "doubt", "clock")
	case 9:
		return d.of("", " ", "end", "tick", "tick ", "tick 1 2 3", "short 1", "short 1 2 3", "again", "again -1", "again 201", "again 1 1", "state ", " clock", "tick  1", "tick 01 2", "q 1 2", "gate 9 9", "GATE 9", "r -0", "begin 1", "check 0")
	case 10, 11, 12, 13, 14, 15:
		return "again " + d.of("0", "1", "2", "3", "13", "14", "15", "16", "70", "200")
	case 16, 17, 18:
		return "tick " + accel
	case 19:
		return "tick " + d.of("32767", "32768", "-32768", "-9223372036854775808", "9223372036854775807", "0") + d.of("", " "+count)
	case 20, 21:
		return "tick " + accel + " " + d.of("90527", "90528", "430515", "430516", "0", "-1", "9223372036854775807", "300000")
	case 22, 23, 24:
		return "short " + accel + " " + d.of(count, count, "1", "300000")
	}
	return "tick " + accel + " " + count
}

// script is a drawn script of lines.
func (d *draws) script(n int) []string {
	var l []string
	for range n {
		l = append(l, d.line())
	}
	return l
}

// TestOfDrawnOnes: drawn scripts, held against the model; all that may be answered is answered at some time.
func TestOfDrawnOnes(t *testing.T) {
	d := &draws{x: 69}
	seen := map[string]int{}
	for range 400 {
		l := d.script(60)
		want := wanted(l)
		if got := Run(strings.Join(l, "\n") + "\n"); got != strings.Join(want, "") {
			t.Fatalf("%q: %q, want %q", l, got, want)
		}
		for _, told := range want {
			for _, word := range strings.Fields(told) {
				seen[word]++
			}
		}
	}
	for _, word := range []string{"ok", "error", "none", "fail", "init", "track", "coast", "lost", "valid", "accepted", "refused", "held", "ground", "state", "doubt", "clock", "end"} {
		if seen[word] < 100 {
			t.Error(word, seen[word])
		}
	}
}

// TestLineByLine is P23.2: each beginning of a script answers the beginning of what the script does, whatever lines stand behind it.
func TestLineByLine(t *testing.T) {
	d := &draws{x: 23}
	for range 30 {
		l := d.script(50)
		want := wanted(l)
		for n := range len(l) + 1 {
			front := strings.Join(want[:n], "")
			if got := Run(strings.Join(l[:n], "\n")); (n == 0 || l[n-1] != "") && got != front {
				t.Fatalf("%q: %q, want %q", l[:n], got, front)
			}
			other := slices.Concat(l[:n], d.script(20))
			if got := Run(strings.Join(other, "\n")); !strings.HasPrefix(got, front) {
				t.Fatalf("%q: %q, want %q ahead", other, got, front)
			}
		}
	}
}

// TestErrorsChangeNothing: lines that answer error, laid between the lines of a script, don't tell on these.
func TestErrorsChangeNothing(t *testing.T) {
	d := &draws{x: 7}
	wrong := []string{"", " ", "tick", "tick 1 2 3", "tick 32768 x", "tick x 400000", "tick 5 9223372036854775808", "short 2048 400000 ", "short 2048", "again 201", "again -1", "again x", "begin 0", "default ",
		"gate 9 9", "gate x", "gate 09", "q 5 5", "q 5 5 x", "q 5 5 5 5", "table 1 1 +1", "hold 9223372036854775808", "end", "state 0", "clock ", "count", "altitude", "text 1", "check ", "loose 1 1  1"}
	for range 100 {
		l := d.script(50)
		want := wanted(l)
		var laid, wantLaid []string
		for i, line := range l {
			for range d.below(3) {
				laid, wantLaid = append(laid, wrong[d.below(len(wrong))]), append(wantLaid, "error\n")
			}
			laid, wantLaid = append(laid, line), append(wantLaid, want[i])
		}
		if got := Run(strings.Join(laid, "\n") + "\n"); got != strings.Join(wantLaid, "") {
			t.Fatalf("%q: %q, want %q", laid, got, wantLaid)
		}
	}
}

// TestAnyBytes: drawn bytes, and bent scripts, held against the model; each text answers the same when it is run again.
func TestAnyBytes(t *testing.T) {
	d := &draws{x: 1}
	for range 3000 {
		b := []byte(strings.Join(append([]string{"begin"}, d.script(12)...), "\n"))
		for range 1 + d.below(6) {
			switch at := d.below(len(b)); d.below(4) {
			case 0:
				b[at] = byte(d.below(256))
			case 1:
				b = append(b[:at], b[at+1:]...)
			case 2:
				b = append(b[:at], append([]byte{d.of(" ", "\n", "0", "-", "+", "9")[0]}, b[at:]...)...)
			default:
				b[at] = d.of(" ", "\n", "0", "-", "+", "1")[0]
			}
		}
		text := string(b)
		l := strings.Split(text, "\n")
		if l[len(l)-1] == "" {
			l = l[:len(l)-1]
		}
		got := Run(text)
		if got != strings.Join(wanted(l), "") {
			t.Fatalf("%q: %q, want %q", text, got, wanted(l))
		}
		if again := Run(text); again != got {
			t.Fatalf("%q: %q, and again %q", text, got, again)
		}
	}
}
