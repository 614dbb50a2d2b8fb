package baro

import (
	"math"
	"testing"

	"aneroid/api"
)

// answer is what a log tells of a tick, and right behind it.
type answer struct {
	count           int64
	brought         bool
	good, bad, none int
	last            int64
}

// brings is what the document says a tick brings, with its numbers.
func brings(t api.Tick) (int64, bool) {
	if t.Has && 90528 <= t.Press && t.Press <= 430515 {
		return t.Press, true
	}
	return 0, false
}

// wanted is what a log has to tell of the last one of some ticks: it is found by looking back over all of them.
func wanted(ticks []api.Tick) answer {
	var a answer
	for i := len(ticks) - 1; i >= 0; i-- {
		count, brought := brings(ticks[i])
		if brought && a.good == 0 {
			a.last = count
		}
		switch {
		case brought:
			a.good++
		case ticks[i].Has:
			a.bad++
		default:
			a.none++
		}
	}
	if len(ticks) > 0 {
		a.count, a.brought = brings(ticks[len(ticks)-1])
	}
	return a
}

// asked asks a log for all that it tells between ticks.
func asked(l *Log, count int64, brought bool) answer {
	good, bad, none := l.Counts()
	return answer{count, brought, good, bad, none, l.Last()}
}

// in hands a tick in, and asks for all that can be told.
func in(l *Log, t api.Tick) answer {
	count, brought := l.In(t)
	return asked(l, count, brought)
}

// holds hands one more tick in, and holds what is told against the document.
func holds(t *testing.T, l *Log, ticks []api.Tick) {
	t.Helper()
	if got, want := in(l, ticks[len(ticks)-1]), wanted(ticks); got != want {
		t.Error(ticks, got, "want", want)
	}
}

// has is a tick that has a count.
func has(count int64) api.Tick { return api.Tick{Has: true, Press: count} }

// presses are counts about the edges, far from them, and beyond what 32 bits tell.
var presses = []int64{
	90528, 90527, 90529, 430515, 430514, 430516, 400000, 405300, 1, 0, -1,
	-90528, -430515, -400000, 1<<32 + 400000, 400000 - 1<<32,
	math.MaxInt64, math.MinInt64, math.MinInt64 + 400000,
}

func TestExampleOfTheDocument(t *testing.T) {
	if count, brought := Brings(has(400000)); count != 400000 || !brought {
		t.Error(count, brought)
	}
	if count, brought := Brings(has(1)); count != 0 || brought {
		t.Error(count, brought)
	}
	l := New()
	if a := in(l, has(400000)); a != (answer{400000, true, 1, 0, 0, 400000}) {
		t.Error(a)
	}
	if a := in(l, has(1)); a != (answer{0, false, 1, 1, 0, 400000}) {
		t.Error(a)
	}
}

func TestNewOne(t *testing.T) {
	l := New()
	if l == nil {
		t.Fatal("none")
	}
	if a := asked(l, 0, false); a != (answer{}) {
		t.Error(a)
	}
}

// TestEdgesOfCounts: the furthest counts that are brought, and the next ones that aren't.
func TestEdgesOfCounts(t *testing.T) {
	for _, x := range []struct {
		count   int64
		brought bool
	}{
		{90527, false}, {90528, true}, {90529, true}, {430514, true}, {430515, true}, {430516, false},
		{0, false}, {-90528, false}, {-430515, false}, {1<<32 + 400000, false},
		{math.MaxInt64, false}, {math.MinInt64, false},
	} {
		want := answer{good: 1, bad: 1, none: 1, last: 100000}
		if x.brought {
			want = answer{count: x.count, brought: true, good: 2, none: 1, last: x.count}
		}
		l := New()
		l.In(has(100000))
		l.In(api.Tick{})
		if a := in(l, has(x.count)); a != want {
			t.Error(x.count, a, "want", want)
		}
		if count, brought := Brings(has(x.count)); count != want.count || brought != want.brought {
			t.Error(x.count, count, brought)
		}
	}
}

// TestBringsHangsOnItsCountAlone: not on the thrust's count, nor on the cycle, nor on what a log was told.
func TestBringsHangsOnItsCountAlone(t *testing.T) {
	l := New()
	for _, press := range presses {
		for _, accel := range presses {
			for n := range 4 {
				tick := api.Tick{Accel: accel, Has: n&1 == 1, Press: press, Short: n&2 == 2}
				count, brought := Brings(tick)
				if want, yes := brings(tick); count != want || brought != yes {
					t.Error(tick, count, brought)
				}
				if again, yes := l.In(tick); again != count || yes != brought {
					t.Error(tick, again, yes)
				}
			}
		}
	}
}

// TestAsIfNone: a tick whose count isn't good brings just what one without does, and what it leaves is the same but for its kind.
func TestAsIfNone(t *testing.T) {
	for _, press := range presses {
		bad, without := has(press), api.Tick{Press: press}
		if _, good := brings(bad); good {
			continue
		}
		count, brought := Brings(bad)
		if other, too := Brings(without); count != other || brought != too || count != 0 || brought {
			t.Error(press, count, brought, other, too)
		}
		l, m := New(), New()
		for _, log := range []*Log{l, m} {
			log.In(has(100001))
		}
		a, b := in(l, bad), in(m, without)
		if a != (answer{0, false, 1, 1, 0, 100001}) || b != (answer{0, false, 1, 0, 1, 100001}) {
			t.Error(press, a, b)
		}
		if a, b := in(l, has(100002)), in(m, has(100002)); a != (answer{100002, true, 2, 1, 0, 100002}) || b != (answer{100002, true, 2, 0, 1, 100002}) {
			t.Error(press, a, b)
		}
	}
}

// TestEveryOrder: every row of seven ticks of each kind, on a log that is asked all things and on one that is asked nothing between.
func TestEveryOrder(t *testing.T) {
	alphabet := []api.Tick{has(430515), has(90528), has(90527), {Press: 400000}}
	for n := range 1 << 14 {
		var ticks []api.Tick
		l, quiet := New(), New()
		for i := range 7 {
			ticks = append(ticks, alphabet[n>>(2*i)&3])
			holds(t, l, ticks)
			// Asked twice, and of a tick that no log was told, nothing moves.
			Brings(has(123456))
			if a, b := asked(l, 0, false), asked(l, 0, false); a != b {
				t.Error(ticks, a, b)
			}
			quiet.In(ticks[i])
		}
		want := wanted(ticks)
		if got := asked(quiet, want.count, want.brought); got != want {
			t.Error(ticks, got, "want", want)
		}
	}
}

// TestSeveral: what one log is told doesn't tell on another.
func TestSeveral(t *testing.T) {
	l, m, untold := New(), New(), New()
	var ofL, ofM []api.Tick
	for i := range 30 {
		ofL = append(ofL, has(presses[i%len(presses)]))
		ofM = append(ofM, api.Tick{Has: i%3 == 0, Press: presses[i*7%len(presses)]})
		holds(t, l, ofL)
		holds(t, m, ofM)
	}
	if a := asked(untold, 0, false); a != (answer{}) {
		t.Error(a)
	}
}

// draws are fixed rows of numbers.
type draws struct{ x uint64 }

// below is a number from 0 to below n.
func (d *draws) below(n int) int {
	d.x = d.x*6364136223846793005 + 1442695040888963407
	return int(d.x >> 33 % uint64(n))
}

// tick is one of any kind.
func (d *draws) tick() api.Tick {
	t := api.Tick{Accel: int64(d.below(5)) - 2, Has: d.below(3) > 0, Short: d.below(2) == 0}
	t.Press = presses[d.below(len(presses))]
	if d.below(2) == 0 {
		t.Press = int64(d.below(600000))
	}
	return t
}

// TestOfDrawnOnes: long rows of drawn ticks.
func TestOfDrawnOnes(t *testing.T) {
	d := &draws{x: 47}
	for range 100 {
		l := New()
		var ticks []api.Tick
		for range 200 {
			ticks = append(ticks, d.tick())
			holds(t, l, ticks)
		}
	}
}
