package channel

import (
	"math"
	"slices"
	"testing"

	"aneroid/api"
	"aneroid/atmos"
	"aneroid/conf"
	"aneroid/fix"
	"aneroid/tame"
)

const (
	still   = int64(2048)
	clipped = int64(32768)
)

// at is a tick with a count, the thrust count at rest.
func at(count int64) api.Tick { return with(still, count) }

// shortAt is the same of a short cycle.
func shortAt(count int64) api.Tick {
	return api.Tick{Accel: still, Has: true, Press: count, Short: true}
}

// with is a tick with both counts, without one with that of a thrust alone.
func with(accel, count int64) api.Tick { return api.Tick{Accel: accel, Has: true, Press: count} }

func without(accel int64) api.Tick { return api.Tick{Accel: accel} }

// usual is the default, bent.
func usual(bend func(c *api.Conf)) api.Conf {
	c := conf.Default()
	bend(&c)
	return c
}

// plain bends a configuration, so that a doubt of altitude alone stays as it begins, with noises of 1, and 3 near the ground.
func plain(c *api.Conf) {
	c.Q, c.Floor, c.Start = api.Vec{}, api.Vec{}, api.Vec{1 << 40, 0, 0}
	c.R, c.RGround = 1<<40, 3<<40
}

// height is a good count's altitude.
func height(t *testing.T, count int64) int64 {
	t.Helper()
	h, e := atmos.Altitude(count)
	if e != api.OK {
		t.Fatal(count, e)
	}
	return h
}

// made is a channel of a configuration that keeps all rules.
func made(t *testing.T, c api.Conf) *Channel {
	t.Helper()
	k, e := New(c)
	if k == nil || e != api.OK {
		t.Fatal(c, k, e)
	}
	return k
}

// begun is a channel that has entered by 16 ticks at rest with a count.
func begun(t *testing.T, c api.Conf, count int64) *Channel {
	t.Helper()
	k := made(t, c)
	for i := range 16 {
		if told := k.Step(with(c.Rest, count)); told.Accepted != (i == 15) {
			t.Fatal(i, told)
		}
	}
	return k
}

// pair is a channel, and the model that it is held against.
type pair struct {
	k *Channel
	m *model
}

func newPair(t *testing.T, c api.Conf) pair {
	t.Helper()
	return pair{made(t, c), newModel(c)}
}

func (p pair) copied() pair { return pair{p.k.Copy(), p.m.copied()} }

// asked asks a channel for all that it tells without a tick.
func (p pair) asked(t *testing.T) {
	t.Helper()
	x, q := p.k.State()
	wantX, wantQ := p.m.guessed()
	mode, since := p.k.Clock()
	if x != wantX || q != wantQ || mode != p.m.mode || since != p.m.since {
		t.Fatal(p.m.conf, p.m.ticks, "has", x, q, mode, since, "want", wantX, wantQ, p.m.mode, p.m.since)
	}
}

// step hands a tick to both.
func (p pair) step(t *testing.T, tick api.Tick) api.Told {
	t.Helper()
	got, want := p.k.Step(tick), p.m.step(tick)
	if got != want {
		t.Fatal(p.m.conf, p.m.ticks, "told", got, "want", want)
	}
	p.asked(t)
	return got
}

// steps hands a tick to both, some times.
func (p pair) steps(t *testing.T, n int, tick api.Tick) (last api.Told) {
	t.Helper()
	for range n {
		last = p.step(t, tick)
	}
	return last
}

func TestExampleOfTheDocument(t *testing.T) {
	k := made(t, conf.Default())
	for range 15 {
		if told := k.Step(at(405300)); told != (api.Told{}) {
			t.Error(told)
		}
	}
	if told := k.Step(at(405300)); told != (api.Told{Mode: 1, Valid: true, Accepted: true}) {
		t.Error(told)
	}
}

func TestNewOne(t *testing.T) {
	k := made(t, conf.Default())
	x, p := k.State()
	mode, since := k.Clock()
	if x != (api.Vec{}) || p != (api.Sym{}) || mode != 0 || since != 0 {
		t.Error(x, p, mode, since)
	}
}

// TestNewOfWrongOnes: a configuration for each rule that isn't kept; Run tells it ahead of too many ticks.
func TestNewOfWrongOnes(t *testing.T) {
	for i, c := range []api.Conf{
		usual(func(c *api.Conf) { c.Q[0] = -1 }),
		usual(func(c *api.Conf) { c.Loose[1] = 1<<16 - 1 }),
		usual(func(c *api.Conf) { c.R = 1<<38 - 1 }),
		usual(func(c *api.Conf) { c.RGround = 1<<38 - 1 }),
		usual(func(c *api.Conf) { c.Ceil[2] = 1<<56 + 1 }),
		usual(func(c *api.Conf) { c.Start[0] = 1<<8 - 1 }),
		usual(func(c *api.Conf) { c.Bound[0] = 1<<54 - 1 }),
		usual(func(c *api.Conf) { c.Gate = 1001 }),
		usual(func(c *api.Conf) { c.Table[2] = 1<<42 + 1 }),
		usual(func(c *api.Conf) { c.Scale = 0 }),
		usual(func(c *api.Conf) { c.Rest = c.Clip }),
		usual(func(c *api.Conf) { c.Hold = -1 }),
		usual(func(c *api.Conf) { c.Out = c.Coast - 1 }),
		usual(func(c *api.Conf) { c.Band = 400001 }),
		usual(func(c *api.Conf) { c.Hold = math.MaxInt64 }),
		{},
	} {
		if k, e := New(c); k != nil || e != api.ErrArg {
			t.Error(i, k, e)
		}
		for _, n := range []int{0, 1, 4096, 4097} {
			if l, e := Run(c, make([]api.Tick, n)); len(l) != 0 || e != api.ErrArg {
				t.Error(i, n, len(l), e)
			}
		}
	}
}

func TestRunOfManyAndNone(t *testing.T) {
	c := conf.Default()
	for _, x := range []struct {
		n    int
		want api.Errno
	}{{0, api.OK}, {1, api.OK}, {4095, api.OK}, {4096, api.OK}, {4097, api.ErrFull}, {10000, api.ErrFull}} {
		l, e := Run(c, make([]api.Tick, x.n))
		if e != x.want || e == api.OK && len(l) != x.n || e != api.OK && l != nil {
			t.Error(x.n, len(l), e)
		}
	}
	if l, e := Run(c, nil); len(l) != 0 || e != api.OK {
		t.Error(l, e)
	}
}

// TestRunIsStepByStep: what Run tells is what a new channel does; the ticks stay, and answers are of their own.
func TestRunIsStepByStep(t *testing.T) {
	d := &draws{x: 20}
	for range 20 {
		c := d.conf()
		ticks := d.ticks(c, 300)
		kept := slices.Clone(ticks)
		got, e := Run(c, ticks)
		again, _ := Run(c, ticks)
		if e != api.OK || !slices.Equal(ticks, kept) {
			t.Fatal(e, "or the ticks aren't as they were")
		}
		m := newModel(c)
		for i, tick := range ticks {
			want := m.step(tick)
			if got[i] != want || again[i] != want {
				t.Fatal(c, ticks[:i+1], got[i], again[i], "want", want)
			}
			got[i] = api.Told{Mode: 9}
		}
	}
}

// TestEnters: the 16th good sample leads to Track, with the altitude of the mean, rounded down, and Start; other ticks don't count.
func TestEnters(t *testing.T) {
	p := newPair(t, conf.Default())
	var last api.Told
	for i := range int64(16) {
		for _, other := range []api.Tick{without(still), at(90527), at(430516), {Accel: still, Press: 400000}, at(math.MinInt64), at(1<<32 + 400000)} {
			if told := p.step(t, other); told != (api.Told{}) {
				t.Fatal(i, told)
			}
		}
		last = p.step(t, at(400000+i*i))
		if i < 15 && last != (api.Told{}) {
			t.Fatal(i, last)
		}
	}
	// The squares' sum is 1240: through 16 that is 77.5.
	h := height(t, 400077)
	if last != (api.Told{Mode: 1, Valid: true, Accepted: true, Alt: fix.Out(h)}) {
		t.Error(last)
	}
	if x, q := p.k.State(); x != (api.Vec{h, 0, 0}) || q != (api.Sym{1 << 42, 0, 0, 1 << 40, 0, 1 << 36}) {
		t.Error(x, q)
	}
	if told := p.step(t, at(400077-240)); !told.Ground {
		t.Error("the mean is to be the ground:", told)
	}
	if told := p.step(t, at(400077-241)); told.Ground {
		t.Error("the mean is to be the ground:", told)
	}
}

// TestEntersAnew: once lost a channel takes 16 samples again, and begins with their mean and Start; its ground stays the first one.
func TestEntersAnew(t *testing.T) {
	c := usual(func(c *api.Conf) { c.Coast, c.Out, c.Hold = 1, 2, 0 })
	for _, lose := range [][]api.Tick{
		{without(2148), without(2148), without(2148)},
		{without(2148), at(300000), at(300000)},
		{without(2148), without(clipped)},
		{without(2148), with(clipped, 400000)},
	} {
		p := newPair(t, c)
		p.steps(t, 16, at(400000))
		for i, tick := range lose {
			if told := p.step(t, tick); (told.Mode == api.Lost) != (i == len(lose)-1) {
				t.Fatal(lose, i, told)
			}
		}
		for range 15 {
			if told := p.step(t, at(300000)); told != (api.Told{Mode: 3}) {
				t.Fatal(lose, told)
			}
		}
		h := height(t, 300000)
		if told := p.step(t, at(300000)); told != (api.Told{Mode: 1, Valid: true, Accepted: true, Alt: fix.Out(h)}) {
			t.Fatal(lose, told)
		}
		if x, q := p.k.State(); x != (api.Vec{h, 0, 0}) || q != (api.Sym{1 << 42, 0, 0, 1 << 40, 0, 1 << 36}) {
			t.Error(lose, x, q)
		}
		if told := p.step(t, at(300000)); told.Ground || !told.Accepted {
			t.Error(lose, told)
		}
		if told := p.step(t, at(400000)); !told.Ground || !told.Refused {
			t.Error(lose, told)
		}
	}
}

// TestFallEmptiesTheHeap: 15 samples, and one more on a tick whose thrusts are lost: from there on it takes 16.
func TestFallEmptiesTheHeap(t *testing.T) {
	p := newPair(t, usual(func(c *api.Conf) { c.Hold = 1 }))
	p.steps(t, 14, at(400000))
	fall := with(clipped, 400000)
	if told := p.step(t, fall); told != (api.Told{Held: true}) {
		t.Error("held, and not yet lost, it is gathered:", told)
	}
	for range 3 {
		if told := p.step(t, fall); told != (api.Told{Mode: 3, Held: true}) {
			t.Error(told)
		}
	}
	if told := p.steps(t, 15, at(400000)); told != (api.Told{Mode: 3}) {
		t.Error(told)
	}
	if told := p.step(t, at(400000)); !told.Accepted || told.Mode != api.Track {
		t.Error(told)
	}
}

// TestFallLeavesTheGuess: on a tick whose thrusts are lost nothing moves, and its sample isn't looked at.
func TestFallLeavesTheGuess(t *testing.T) {
	k := begun(t, usual(func(c *api.Conf) { c.Hold = 0 }), 400000)
	k.Step(without(4000))
	x, p := k.State()
	for range 3 {
		if told := k.Step(with(clipped, 400000)); told != (api.Told{Mode: 3, Held: true}) {
			t.Error(told)
		}
		if y, q := k.State(); y != x || q != p {
			t.Error(y, q, "want", x, p)
		}
	}
}

// TestClock: by samples that are missing or refused Track becomes Coast, then Lost; one that is taken leads back.
func TestClock(t *testing.T) {
	c := usual(func(c *api.Conf) { c.Coast, c.Out = 3, 5 })
	for _, miss := range []api.Tick{without(still), at(90527), at(200000)} {
		k := begun(t, c, 400000)
		for i, want := range []struct{ mode, since int }{{1, 1}, {1, 2}, {2, 3}, {2, 4}, {2, 5}, {3, 0}, {3, 0}} {
			told := k.Step(miss)
			mode, since := k.Clock()
			if mode != want.mode || since != want.since || told.Mode != mode || told.Valid != (mode != 3) || told.Accepted {
				t.Error(miss, i, told, mode, since, "want", want)
			}
			// The tick by which it is lost looks at its sample yet, the next one doesn't.
			if told.Refused != (miss.Press == 200000 && i < 6) {
				t.Error(miss, i, told)
			}
		}
		k = begun(t, c, 400000)
		for range 4 {
			k.Step(miss)
		}
		told := k.Step(at(400000))
		if mode, since := k.Clock(); mode != 1 || since != 0 || !told.Accepted || told.Refused {
			t.Error(miss, told, mode, since)
		}
	}
}

// TestEdgeOfTheGate: a surprise of 256 m, whose square is just the gate times the spread; with the spread one less it is refused.
func TestEdgeOfTheGate(t *testing.T) {
	for _, x := range []struct {
		start int64
		taken bool
	}{{1 << 49, true}, {1<<49 - 1, false}, {1<<49 + 1, true}} {
		p := newPair(t, usual(func(c *api.Conf) {
			plain(c)
			c.R, c.RGround, c.Gate = 1<<49, 1<<50, 64
			c.Start = api.Vec{x.start, 0, 0}
		}))
		p.steps(t, 16, at(405300))
		told := p.step(t, at(393149))
		if told.Accepted != x.taken || told.Refused == x.taken || told.Ground {
			t.Error(x, told)
		}
		if x.start == 1<<49 && told.Alt != 128<<16 {
			t.Error("half of the surprise is to be taken:", told)
		}
	}
}

// TestNearTheGround: samples are lifted to the ground, count by RGround, and it is told, refused or not; beyond the band they count by R.
func TestNearTheGround(t *testing.T) {
	const byRough, byNoise, refused = 3 << 38, 1 << 39, 1 << 40
	for _, x := range []struct {
		band, count, doubt int64
		near, moved        bool
	}{
		{240, 400000, byRough, true, false},
		{240, 400001, byRough, true, false},
		{240, 430515, byRough, true, false},
		{240, 399900, byRough, true, true},
		{240, 399760, refused, true, false},
		{240, 399759, refused, false, false},
		{50, 399950, byRough, true, true},
		{50, 399949, byNoise, false, true},
		{0, 400000, byRough, true, false},
		{0, 399999, byNoise, false, true},
	} {
		p := newPair(t, usual(func(c *api.Conf) { plain(c); c.Band, c.Gate = x.band, 5 }))
		p.steps(t, 16, at(400000))
		before, _ := p.k.State()
		told := p.step(t, at(x.count))
		after, q := p.k.State()
		taken := x.doubt != refused
		if told.Ground != x.near || told.Accepted != taken || told.Refused == taken || q[0] != x.doubt || (after != before) != x.moved {
			t.Error(x, told, before, after, q)
		}
	}
}

// TestShort: on a short cycle the table's gain is taken, else the best one, which here is one half.
func TestShort(t *testing.T) {
	c := usual(func(c *api.Conf) {
		plain(c)
		c.Band, c.Table = 0, api.Vec{1 << 38, 1 << 39, -1 << 37}
	})
	h := height(t, 405290)
	for _, x := range []struct {
		short bool
		want  api.Vec
	}{{true, api.Vec{h / 4, h / 2, -h / 8}}, {false, api.Vec{h / 2, 0, 0}}} {
		p := newPair(t, c)
		p.steps(t, 16, shortAt(405300))
		told := p.step(t, api.Tick{Accel: still, Has: true, Press: 405290, Short: x.short})
		got, _ := p.k.State()
		for i := range got {
			// A product is rounded to even, Go's quotient to 0.
			if !told.Accepted || max(got[i]-x.want[i], x.want[i]-got[i]) > 1 {
				t.Error(x, told, got)
			}
		}
	}
}

// TestShortWithoutASample: a short cycle that brings none is as any other.
func TestShortWithoutASample(t *testing.T) {
	a, b := begun(t, conf.Default(), 405300), begun(t, conf.Default(), 405300)
	for i := range int64(50) {
		short := api.Tick{Accel: 3000 + i, Has: i%2 == 0, Press: -i, Short: true}
		if x, y := a.Step(short), b.Step(without(3000+i)); x != y || !alike(a, b) {
			t.Error(i, x, y)
		}
	}
}

// TestDoubtThatDoesNotFit: a short cycle whose doubt would go beyond what fits refuses the sample whole: the state, too, is just moved on.
func TestDoubtThatDoesNotFit(t *testing.T) {
	c := usual(func(c *api.Conf) {
		c.Ceil = api.Vec{1 << 56, 1 << 56, 1 << 56}
		c.Start = c.Ceil
		c.Bound = api.Vec{1 << 56, 1 << 56, 1 << 56}
		c.Table = api.Vec{1 << 40, 1 << 42, 1 << 42}
		c.Gate = 1000
	})
	p := newPair(t, c)
	p.steps(t, 16, at(400000))
	q := p.copied()
	told := p.step(t, shortAt(399000))
	q.step(t, without(still))
	x, dx := p.k.State()
	y, dy := q.k.State()
	if !told.Refused || told.Accepted || told.Ground || x != y || dx != dy {
		t.Error(told, x, y, dx, dy)
	}
	if told := p.step(t, at(399000)); !told.Accepted {
		t.Error(told)
	}
}

// TestStateThatDoesNotFit: a drive that doesn't fit leaves the state, and the doubt moves on all the same.
func TestStateThatDoesNotFit(t *testing.T) {
	c := usual(func(c *api.Conf) {
		c.Rest, c.Clip, c.Scale = 1-1<<17, 1<<17, 1<<40
		c.Bound = api.Vec{1 << 56, 1 << 56, 1 << 56}
		c.Table = api.Vec{1 << 40, 1 << 40, -1 << 42}
		c.Gate, c.Out = 1000, 100000
	})
	p := newPair(t, c)
	p.steps(t, 16, with(c.Rest, 405300))
	p.step(t, api.Tick{Accel: c.Rest, Has: true, Press: 405180, Short: true})
	x, dx := p.k.State()
	if x[2] > -4<<40 {
		t.Fatal("no bias:", x)
	}
	told := p.step(t, without(1<<17-1))
	y, dy := p.k.State()
	if y != x || dy == dx || !told.Valid {
		t.Error(x, y, dx, dy, told)
	}
	p.step(t, without(0))
	if z, _ := p.k.State(); z == x {
		t.Error(z)
	}
}

// TestBounds: state and doubt are kept within bounds behind a tick, and behind a sample.
func TestBounds(t *testing.T) {
	c := usual(func(c *api.Conf) {
		c.Bound = api.Vec{1 << 54, 1 << 38, 1 << 30}
		c.Ceil = api.Vec{1 << 44, 1 << 41, 1 << 37}
		c.Loose = api.Vec{1 << 50, 1 << 50, 1 << 50}
		c.Table = api.Vec{1 << 40, 1 << 42, -1 << 42}
	})
	p := newPair(t, c)
	p.steps(t, 16, at(405300))
	p.steps(t, 200, without(32767))
	if x, _ := p.k.State(); x[1] != 1<<38 {
		t.Error(x)
	}
	p.step(t, without(clipped))
	if _, q := p.k.State(); q[0] != 1<<44 || q[3] != 1<<41 || q[5] != 1<<37 {
		t.Error(q)
	}
	if told := p.step(t, shortAt(405200)); !told.Accepted {
		t.Fatal(told)
	}
	if x, q := p.k.State(); x[1] != 1<<38 || x[2] != -1<<30 || q[3] != 1<<41 || q[5] != 1<<37 || !tame.Is(q, c.Floor, c.Ceil) {
		t.Error(x, q)
	}
	q := newPair(t, usual(func(c *api.Conf) { c.Bound = api.Vec{1 << 54, 0, 0} }))
	q.steps(t, 16, at(405300))
	q.step(t, at(405290))
	q.step(t, without(9000))
	if x, _ := q.k.State(); x[0] == 0 || x[1] != 0 || x[2] != 0 {
		t.Error(x)
	}
}

// TestTellsTheState: of what is told each number is the state's, as it goes out.
func TestTellsTheState(t *testing.T) {
	k := begun(t, conf.Default(), 400000)
	seen := 0
	for i := range 400 {
		count := 400000 - int64(i)*3
		told := k.Step(api.Tick{Accel: 2300, Has: i%3 == 0, Press: count})
		x, _ := k.State()
		if told.Alt != fix.Out(x[0]) || told.Speed != fix.Out(x[1]) || told.Bias != fix.Out(x[2]) || !told.Valid {
			t.Fatal(i, told, x)
		}
		if told.Speed != 0 && told.Bias != 0 && told.Speed != told.Bias {
			seen++
		}
	}
	if seen < 300 {
		t.Error(seen)
	}
}

// TestHeld is told in every mode.
func TestHeld(t *testing.T) {
	k := made(t, conf.Default())
	for _, count := range []int64{clipped, -clipped, math.MaxInt64, math.MinInt64} {
		if told := k.Step(without(count)); told != (api.Told{Held: true}) {
			t.Error(count, told)
		}
	}
	if told := k.Step(without(still)); told.Held {
		t.Error(told)
	}
	k = begun(t, conf.Default(), 405300)
	for range 32 {
		if told := k.Step(with(clipped, 405300)); told != (api.Told{Mode: 1, Valid: true, Accepted: true, Held: true, Ground: true}) {
			t.Error(told)
		}
	}
	if told := k.Step(with(clipped, 405300)); told != (api.Told{Mode: 3, Held: true}) {
		t.Error(told)
	}
}
