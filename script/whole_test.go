package script

import (
	"strconv"
	"strings"
	"testing"

	"aneroid/api"
	"aneroid/atmos"
	"aneroid/conf"
	"aneroid/fix"
	"aneroid/mean"
	"aneroid/parse"
	"aneroid/sym"
	"aneroid/tame"
)

// read are the numbers behind a word that a line answered.
func read(t *testing.T, line, word string) []int64 {
	t.Helper()
	words := strings.Split(line, " ")
	if words[0] != word {
		t.Fatalf("%q, not %s", line, word)
	}
	var l []int64
	for _, w := range words[1:] {
		x, err := strconv.ParseInt(w, 10, 64)
		if err != nil {
			t.Fatal(line, err)
		}
		l = append(l, x)
	}
	return l
}

// out is a good count's altitude, as it is told.
func out(count int64) string {
	h, _ := atmos.Altitude(count)
	return number(fix.Out(h))
}

// TestAtRest is T1, at counts over the whole table.
func TestAtRest(t *testing.T) {
	for count := int64(api.Low); count <= api.High; count += 997 {
		l := []string{"begin"}
		for range 64 {
			l = append(l, "tick 2048 "+number(count))
		}
		for i, told := range answers(l...)[1:] {
			want := "init 0 0 0"
			if i >= 15 {
				want = "track valid accepted " + out(count) + " 0 0"
			}
			if strings.Replace(told, " ground", "", 1) != want {
				t.Fatal(count, i, told)
			}
		}
	}
}

// TestWhateverComes is T2: all numbers are taken; a count that isn't good does what none does, a clipped thrust what the last one did but looser, and too many of these lead to Lost.
func TestWhateverComes(t *testing.T) {
	edges := []string{"-9223372036854775808", "-1", "0", "1", "2048", "32767", "32768", "90527", "90528", "405300", "430515", "430516", "4295372596", "9223372036854775807"}
	l := []string{"begin"}
	for _, a := range edges {
		l = append(l, "tick "+a)
		for _, p := range edges {
			l = append(l, "tick "+a+" "+p)
		}
	}
	for i, told := range answers(l...) {
		if told == "error" {
			t.Error(l[i])
		}
	}
	enter := []string{"begin", "tick 2048 405300", "again 15"}
	behind := func(lines ...string) string {
		told := answers(append(append([]string{}, enter...), append(lines, "state", "doubt", "clock")...)...)
		return strings.Join(told[len(told)-3:], "\n")
	}
	if a, b := behind("tick 3000 90527", "tick 2000 -405300", "again 70"), behind("tick 3000", "tick 2000", "again 70"); a != b {
		t.Error(a, b)
	}
	clipped, looser := behind("tick 3000", "tick 32768"), behind("tick 3000", "again 1")
	if strings.Split(clipped, "\n")[0] != strings.Split(looser, "\n")[0] || clipped == looser {
		t.Error(clipped, looser)
	}
	enter[0] = "loose 1024 65536 256\nbegin"
	if a, b := behind("tick 3000", "tick 32768"), behind("tick 3000", "again 1"); a != b {
		t.Error(a, b)
	}
	holds(t, "begin", "ok", "tick 2048 405300", "init 0 0 0", "again 15", "track valid accepted 0 0 0", "tick 32768 405300", "track valid accepted held ground 0 0 0",
		"again 31", "track valid accepted held ground 0 0 0", "clock", "clock 1 0", "again 1", "lost held 0 0 0", "clock", "clock 3 0")
}

// TestFalling is T3, at each good count; and at the table's heights, the standard's altitudes.
func TestFalling(t *testing.T) {
	last := int64(-1 << 62)
	for count := int64(api.High); count >= api.Low; {
		var l []string
		for ; count >= api.Low && len(l) < 400; count-- {
			l = append(l, "altitude "+number(count))
		}
		for i, told := range answers(l...) {
			h, err := strconv.ParseInt(told, 10, 64)
			if err != nil || h <= last {
				t.Fatal(l[i], told, last)
			}
			last = h
		}
	}
	for i := 0; ; i++ {
		h, count, e := atmos.Node(i)
		if e != api.OK {
			break
		}
		if h != (int64(i)*256-512)<<40 {
			t.Error(i, h)
		}
		if count >= api.Low {
			holds(t, "altitude "+number(count), number(h), "count "+number(h), number(count))
		}
	}
}

// TestNotLongAgo is T4, in drawn scripts of single ticks.
func TestNotLongAgo(t *testing.T) {
	d := &draws{x: 4}
	entered := 0
	for range 60 {
		past := 1 + d.below(12)
		l := []string{"hold 2", "coast 1", "out " + number(int64(past)), "start 300 400 500", "begin"}
		var counts []int64
		ticks := len(l)
		for len(l) < 390 {
			count, p := int64(405200+d.below(200)), d.below(8)
			switch {
			case p == 0:
				count = 1
			case p == 1 && len(l)%100 > 50:
				count = 90528 + int64(d.below(100000))
			}
			line := "tick " + d.of("2048", "2048", "2050", "2040", "2048", "40000") + " " + number(count)
			if len(l)%100 > 70 {
				line, count = "tick 2048", 0
			}
			l, counts = append(l, line, "doubt"), append(counts, count)
		}
		told := answers(l...)
		var heap []int64
		ago, clipped, sought := 0, 0, true
		for i, count := range counts {
			words, line := strings.Split(told[ticks+2*i], " "), l[ticks+2*i]
			is := func(word string) bool { return strings.Contains(" "+strings.Join(words, " ")+" ", " "+word+" ") }
			clipped++
			if !strings.HasPrefix(line, "tick 40000") {
				clipped = 0
			}
			ago++
			if is("accepted") {
				ago = 0
			}
			if is("valid") && ago > past {
				t.Fatal(l[:ticks], i, words, ago)
			}
			if sought && clipped > 2 {
				heap = nil
			} else if sought && atmos.Good(count) {
				heap = append(heap, count)
			}
			if full := len(heap) == 16; sought && full != (is("track") && is("accepted")) {
				t.Fatal(i, words, len(heap))
			} else if sought && full {
				m, _ := mean.Of(heap...)
				if words[len(words)-3] != out(m) || told[ticks+2*i+1] != "doubt 300 0 0 400 0 500" {
					t.Fatal(i, words, m, told[ticks+2*i+1])
				}
				heap, entered = nil, entered+1
			}
			sought = !is("valid")
		}
	}
	if entered < 100 {
		t.Error(entered)
	}
}

// TestBounds is T5: a channel is begun of a configuration that keeps all rules alone, and then doubt and state stay within its bounds.
func TestBounds(t *testing.T) {
	d := &draws{x: 5}
	begun, refused, valid := 0, 0, 0
	for range 300 {
		var l []string
		for range 1 + d.below(4) {
			l = append(l, d.of("hold 2", "gate 1000", "scale 1099511627776", "clip 131072", "q 0 0 0", "loose 1125899906842624 1125899906842624 1125899906842624", "start 256 256 256",
				"table 1099511627776 4398046511104 -4398046511104", "table 0 0 0", "bound 18014398509481984 0 0", "bound 72057594037927936 72057594037927936 72057594037927936",
				"ceil 4398046511104 1099511627776 68719476736", "ceil 72057594037927936 72057594037927936 72057594037927936", "gate 0", "clip 0", "floor 257 257 257", "band -1", "out 63", "r 1"))
		}
		l = append(l, "text", "begin")
		head := len(l) - 2 + 18
		for range 60 {
			l = append(l, d.of("tick 2048 405300", "again 15", "again 200", "tick 100000", "tick -32767", "tick 131071 90528", "short 2000 405300", "short 32767 430515", "tick 2048 300000", "tick 200000"), "clock", "state", "doubt")
		}
		told := answers(l...)
		c, rule, e := parse.Load(strings.Join(told[head-18:head], "\n") + "\n")
		if e != api.OK {
			refused++
			if e != api.ErrRange || rule == 0 || told[head] != "fail 1" || told[head+1] != "error" {
				t.Fatal(l[:5], e, rule, told[head:head+2])
			}
			continue
		}
		begun++
		if told[head] != "ok" || conf.Check(c) != 0 {
			t.Fatal(l[:5], told[head])
		}
		for i := head + 1; i < len(told); i += 4 {
			if mode := read(t, told[i+1], "clock")[0]; mode != api.Track && mode != api.Coast {
				continue
			}
			valid++
			x, p := api.Vec(read(t, told[i+2], "state")), api.Sym(read(t, told[i+3], "doubt"))
			if !tame.Is(p, c.Floor, c.Ceil) || !sym.Sound(p, c.Floor) {
				t.Fatal(l, p)
			}
			for j := range 3 {
				if x[j] > c.Bound[j] || x[j] < -c.Bound[j] || sym.Main(p)[j] > c.Ceil[j] {
					t.Fatal(l, x, p)
				}
			}
		}
	}
	if begun < 50 || refused < 50 || valid < 1000 {
		t.Error(begun, refused, valid)
	}
}
