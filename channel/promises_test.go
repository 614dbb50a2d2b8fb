package channel

import (
	"math"
	"testing"

	"aneroid/api"
	"aneroid/conf"
	"aneroid/fix"
	"aneroid/sym"
	"aneroid/tame"
)

// draws are fixed rows of numbers.
type draws struct{ x uint64 }

func (d *draws) bits() uint64 {
	d.x = d.x*6364136223846793005 + 1442695040888963407
	return d.x >> 12
}

// from is a number from low to high: an edge now and then, and of the others as many small steps from low as great ones.
func (d *draws) from(low, high int64) int64 {
	switch d.bits() >> 20 % 12 {
	case 0:
		return low
	case 1:
		return high
	}
	return low + int64(d.bits()>>(d.bits()>>20%48)%uint64(high-low+1))
}

// of is one of some numbers.
func (d *draws) of(l ...int64) int64 { return l[d.bits()>>20%uint64(len(l))] }

// conf is a configuration that keeps all rules, anywhere within them.
func (d *draws) conf() api.Conf {
	c := conf.Default()
	for i := range 3 {
		c.Q[i] = d.from(0, 1<<50)
		c.Loose[i] = d.from(c.Q[i], 1<<50)
		c.Floor[i] = d.from(0, 1<<30)
		c.Ceil[i] = d.from(c.Floor[i], 1<<56)
		c.Start[i] = d.from(c.Floor[i], c.Ceil[i])
		c.Bound[i] = d.from(0, 1<<56)
		c.Table[i] = d.from(-1<<42, 1<<42)
	}
	c.R = d.from(1<<38, 1<<50)
	c.RGround = d.from(c.R, 1<<50)
	c.Bound[0] = d.from(1<<54, 1<<56)
	c.Gate = d.from(1, 1000)
	c.Table[0] = d.from(0, 1<<40)
	c.Scale = d.from(1, 1<<40)
	c.Clip = d.from(1, 1<<17)
	c.Rest = d.from(1-c.Clip, c.Clip-1)
	c.Hold = d.from(0, 5)
	c.Out = d.from(1, 30)
	c.Coast = d.from(1, c.Out)
	c.Band = d.of(0, 100, 1000, d.from(0, 400000))
	return c
}

// ticks are drawn ones of a flight, not all of them sound: a count near that of the flight, one that is far off or isn't good, or none; a thrust count that is now and then clipped.
func (d *draws) ticks(c api.Conf, n int) []api.Tick {
	var l []api.Tick
	flight := d.from(100000, 420000)
	for len(l) < n {
		flight += int64(d.bits()%41) - 20
		t := api.Tick{Has: true, Press: flight, Short: d.of(0, 0, 0, 1) == 1}
		switch d.of(0, 1, 2, 3, 4, 5, 6, 7) {
		case 0:
			t.Press = d.of(90527, 90528, 430515, 430516, 0, -flight, flight+1<<32, math.MaxInt64, math.MinInt64)
		case 1:
			t.Press = d.from(90528, 430515)
		case 2, 3:
			t.Has = false
		}
		t.Accel = c.Rest
		switch d.of(0, 1, 2, 3, 4, 5, 6, 7) {
		case 0, 1:
			t.Accel = d.of(c.Clip, -c.Clip, c.Clip+1, math.MaxInt64, math.MinInt64, c.Rest+1<<32)
		case 2, 3:
			t.Accel = d.of(c.Clip-1, 1-c.Clip, d.from(1-c.Clip, c.Clip-1))
		}
		l = append(l, t)
	}
	return l
}

// alike tells whether two channels have the same state, doubt and clock.
func alike(a, b *Channel) bool {
	x, p := a.State()
	y, q := b.State()
	mode, since := a.Clock()
	modeB, sinceB := b.Clock()
	return x == y && p == q && mode == modeB && since == sinceB
}

// holdsTame holds P20.2, and T5 of it: the doubt of a valid clock is tame, so sound over the floor and not above the ceiling, and the state within its bound.
func holdsTame(t *testing.T, k *Channel, c api.Conf) {
	t.Helper()
	if mode, _ := k.Clock(); mode != api.Track && mode != api.Coast {
		return
	}
	x, p := k.State()
	if !tame.Is(p, c.Floor, c.Ceil) || !sym.Sound(p, c.Floor) {
		t.Fatal(c, "doubt", p)
	}
	for i, entry := range sym.Main(p) {
		if entry > c.Ceil[i] || x[i] < -c.Bound[i] || x[i] > c.Bound[i] {
			t.Fatal(c, "state", x, "doubt", p)
		}
	}
}

// TestOfDrawnOnes: drawn configurations and flights, held against the model; all that may be told is told at some time.
func TestOfDrawnOnes(t *testing.T) {
	d := &draws{x: 60}
	seen := map[string]int{}
	for range 400 {
		c := d.conf()
		p := newPair(t, c)
		for _, tick := range d.ticks(c, 200) {
			told := p.step(t, tick)
			holdsTame(t, p.k, c)
			for name, is := range map[string]bool{
				"track": told.Mode == api.Track, "coast": told.Mode == api.Coast, "lost": told.Mode == api.Lost,
				"entered": told.Accepted && !told.Ground, "taken near": told.Accepted && told.Ground, "refused near": told.Refused && told.Ground,
				"refused": told.Refused, "held": told.Held && told.Valid, "short": told.Accepted && tick.Short,
			} {
				if is {
					seen[name]++
				}
			}
		}
	}
	for _, name := range []string{"track", "coast", "lost", "entered", "taken near", "refused near", "refused", "held", "short"} {
		if seen[name] < 100 {
			t.Error(name, seen[name])
		}
	}
}

// TestEveryOrder: from several beginnings on every row of five ticks, each row by copies of copies: what one is told doesn't tell on another.
func TestEveryOrder(t *testing.T) {
	c := usual(func(c *api.Conf) { c.Hold, c.Coast, c.Out = 1, 1, 2 })
	alphabet := []api.Tick{at(400000), with(2100, 399700), with(clipped, 400010), without(clipped), without(2000), shortAt(399990)}
	for _, before := range [][]api.Tick{
		nil,
		repeated(14, at(400000)),
		repeated(16, at(400000)),
		append(repeated(16, at(400000)), without(3000), with(clipped, 399995)),
		append(repeated(16, at(400000)), append(repeated(4, without(3000)), repeated(13, at(399900))...)...),
	} {
		p := newPair(t, c)
		for _, tick := range before {
			p.step(t, tick)
		}
		rows(t, p, alphabet, 5)
	}
}

func repeated(n int, tick api.Tick) []api.Tick {
	var l []api.Tick
	for range n {
		l = append(l, tick)
	}
	return l
}

// rows hands every row of n ticks to copies.
func rows(t *testing.T, p pair, alphabet []api.Tick, n int) {
	if n == 0 {
		return
	}
	for _, tick := range alphabet {
		q := p.copied()
		q.step(t, tick)
		rows(t, q, alphabet, n-1)
		p.asked(t)
	}
}

// TestCopy: both go their own way from each tick of a flight on, whichever goes first.
func TestCopy(t *testing.T) {
	d := &draws{x: 61}
	for range 60 {
		c := d.conf()
		p := newPair(t, c)
		for _, tick := range d.ticks(c, 60) {
			q := p.copied()
			if q.k == p.k {
				t.Fatal("it is the same channel")
			}
			q.asked(t)
			for _, other := range d.ticks(c, 3) {
				q.step(t, other)
			}
			p.asked(t)
			p.step(t, tick)
			for _, other := range d.ticks(c, 3) {
				q.step(t, other)
			}
		}
	}
}

// TestCopyOfABegunHeap: first samples that are told to one aren't in the other's heap, nor is the ground.
func TestCopyOfABegunHeap(t *testing.T) {
	for begun := range 16 {
		p := newPair(t, conf.Default())
		p.steps(t, begun, at(300000))
		q := p.copied()
		for range 20 {
			p.step(t, at(300100))
			q.step(t, at(299900))
		}
		// Their grounds are 200 counts apart, or nearer: the band is 240.
		p.step(t, at(299700))
		q.step(t, at(299700))
	}
}

// TestCountThatIsNotGood is P20.3: it does what none does.
func TestCountThatIsNotGood(t *testing.T) {
	d := &draws{x: 62}
	for range 100 {
		c := d.conf()
		a, b := made(t, c), made(t, c)
		for _, tick := range d.ticks(c, 150) {
			bare := tick
			if tick.Press < 90528 || tick.Press > 430515 {
				bare = api.Tick{Accel: tick.Accel}
			}
			if x, y := a.Step(tick), b.Step(bare); x != y || !alike(a, b) {
				t.Fatal(c, tick, x, y)
			}
		}
	}
}

// TestThrustCountThatIsClipped is P20.3: with Loose as Q, it does what the last one did that wasn't, but that it is told to be held; with another Loose the doubt differs, and not at once the state.
func TestThrustCountThatIsClipped(t *testing.T) {
	d := &draws{x: 63}
	for range 100 {
		c := d.conf()
		c.Hold, c.Q = 1000, c.Loose
		a, b := made(t, c), made(t, c)
		last := c.Rest
		for _, tick := range d.ticks(c, 150) {
			clip := tick.Accel <= -c.Clip || tick.Accel >= c.Clip
			bare := tick
			if clip {
				bare.Accel = last
			}
			last = bare.Accel
			x, y := a.Step(tick), b.Step(bare)
			if x.Held != clip || y.Held {
				t.Fatal(c, tick, x, y)
			}
			x.Held = false
			if x != y || !alike(a, b) {
				t.Fatal(c, tick, x, y)
			}
		}
	}
	k := begun(t, conf.Default(), 405300)
	k.Step(without(2500))
	l := k.Copy()
	k.Step(without(clipped))
	l.Step(without(2500))
	x, p := k.State()
	y, q := l.State()
	if x != y || p[0]-q[0] != 1<<14-1<<10 || p[3]-q[3] != 1<<22-1<<16 || p[5]-q[5] != 1<<12-1<<8 || p[1] != q[1] || p[2] != q[2] || p[4] != q[4] {
		t.Error(x, y, p, q)
	}
}

// TestAtRest is P20.4, and T1: whatever the configuration and the count.
func TestAtRest(t *testing.T) {
	d := &draws{x: 64}
	for i := range 400 {
		c := d.conf()
		if i == 0 {
			c = conf.Default()
		}
		count := d.of(90528, 430515, 405300, d.from(90528, 430515))
		k := begun(t, c, count)
		alt := height(t, count)
		want := api.Told{Mode: api.Track, Valid: true, Accepted: true, Ground: true, Alt: fix.Out(alt)}
		for range 60 {
			told := k.Step(with(c.Rest, count))
			if x, _ := k.State(); told != want || x != (api.Vec{alt, 0, 0}) {
				t.Fatal(c, count, told, x)
			}
			holdsTame(t, k, c)
		}
	}
}

// TestNotLongAgo is T4: if what is told is valid, a sample was accepted at most Out ticks ago, just since ago.
func TestNotLongAgo(t *testing.T) {
	d := &draws{x: 65}
	for range 100 {
		c := d.conf()
		k := made(t, c)
		ago := math.MaxInt
		for _, tick := range d.ticks(c, 200) {
			told := k.Step(tick)
			if ago < math.MaxInt {
				ago++
			}
			if told.Accepted {
				ago = 0
			}
			if mode, since := k.Clock(); told.Valid && (since != ago || int64(since) > c.Out) || mode != told.Mode {
				t.Fatal(c, tick, told, mode, since, ago)
			}
		}
	}
}

// TestMemoryOfItsOwn: whoever writes into what was handed in or answered changes nothing.
func TestMemoryOfItsOwn(t *testing.T) {
	c := conf.Default()
	k, l := begun(t, c, 400000), begun(t, conf.Default(), 400000)
	c.Gate, c.Out, c.Q[0], c.Bound[0] = 0, 0, 1<<50, 0
	x, p := k.State()
	x[0], p[0] = 7, 7
	for i := range int64(200) {
		tick := with(2040+i%20, 400000-i)
		if a, b := k.Step(tick), l.Step(tick); a != b || !alike(k, l) {
			t.Fatal(i, a, b)
		}
	}
}
