package accel

import (
	"math"
	"math/big"
	"slices"
	"testing"

	"aneroid/api"
	"aneroid/conf"
)

// answer is what a feed tells of a count, and right behind it.
type answer struct {
	thrust     int64
	held, lost bool
	run        int64
}

// clipped tells whether a count has no thrust, in whole numbers of any size.
func clipped(c api.Conf, count int64) bool {
	return new(big.Int).Abs(big.NewInt(count)).Cmp(big.NewInt(c.Clip)) >= 0
}

// wanted is what a feed has to tell of the last one of some counts: it is found by looking back over all of them.
func wanted(c api.Conf, counts []int64) answer {
	var a answer
	for i := len(counts) - 1; i >= 0; i-- {
		if !clipped(c, counts[i]) {
			more := new(big.Int).Sub(big.NewInt(counts[i]), big.NewInt(c.Rest))
			a.thrust = more.Mul(more, big.NewInt(c.Scale)).Int64()
			break
		}
		a.run++
	}
	a.held, a.lost = a.run > 0, a.run > c.Hold
	return a
}

// made is a feed of a configuration that keeps all rules.
func made(t *testing.T, c api.Conf) *Feed {
	t.Helper()
	f, e := New(c)
	if f == nil || e != api.OK {
		t.Fatal(c, f, e)
	}
	return f
}

// in hands a count in, and asks for all that can be told.
func in(f *Feed, count int64) answer {
	thrust, held, lost := f.In(count)
	return answer{thrust, held, lost, f.Run()}
}

// holds hands one more count in, and holds what is told against the document.
func holds(t *testing.T, f *Feed, c api.Conf, counts []int64) {
	t.Helper()
	if got, want := in(f, counts[len(counts)-1]), wanted(c, counts); got != want {
		t.Error(c.Rest, c.Clip, c.Scale, c.Hold, counts, got, "want", want)
	}
	holdsAdd(t, f, c)
}

// holdsAdd asks for what doesn't hang on what came before.
func holdsAdd(t *testing.T, f *Feed, c api.Conf) {
	t.Helper()
	if q, loose := f.Add(false), f.Add(true); q != c.Q || loose != c.Loose {
		t.Error(q, loose, "want", c.Q, c.Loose)
	}
}

// holding is the usual configuration with another Hold.
func holding(hold int64) api.Conf {
	c := conf.Default()
	c.Hold = hold
	return c
}

func TestExampleOfTheDocument(t *testing.T) {
	f := made(t, conf.Default())
	if a := in(f, 2049); a != (answer{1 << 29, false, false, 0}) {
		t.Error(a)
	}
	if a := in(f, 40000); a != (answer{1 << 29, true, false, 1}) {
		t.Error(a)
	}
}

func TestNewOne(t *testing.T) {
	f := made(t, conf.Default())
	if n := f.Run(); n != 0 {
		t.Error(n)
	}
	if q := f.Add(false); q != (api.Vec{1 << 10, 1 << 16, 1 << 8}) {
		t.Error(q)
	}
	if loose := f.Add(true); loose != (api.Vec{1 << 14, 1 << 22, 1 << 12}) {
		t.Error(loose)
	}
	// Without a thrust before, that of a clipped count is 0, even if no count at rest is.
	if a := in(f, math.MinInt64); a != (answer{0, true, false, 1}) {
		t.Error(a)
	}
}

func TestNewOfWrongOnes(t *testing.T) {
	for i, bend := range []func(c *api.Conf){
		func(c *api.Conf) { c.Q[0] = -1 },
		func(c *api.Conf) { c.Loose[1] = 1<<16 - 1 },
		func(c *api.Conf) { c.R = 1<<38 - 1 },
		func(c *api.Conf) { c.RGround = 1<<38 - 1 },
		func(c *api.Conf) { c.Ceil[2] = 1<<56 + 1 },
		func(c *api.Conf) { c.Start[0] = 1<<8 - 1 },
		func(c *api.Conf) { c.Bound[0] = 1<<54 - 1 },
		func(c *api.Conf) { c.Gate = 0 },
		func(c *api.Conf) { c.Table[2] = 1<<42 + 1 },
		func(c *api.Conf) { c.Scale = 0 },
		func(c *api.Conf) { c.Rest = c.Clip },
		func(c *api.Conf) { c.Hold = -1 },
		func(c *api.Conf) { c.Out = c.Coast - 1 },
		func(c *api.Conf) { c.Band = 400001 },
		func(c *api.Conf) { c.Clip = math.MinInt64 },
		func(c *api.Conf) { c.Hold = math.MaxInt64 },
		func(c *api.Conf) { *c = api.Conf{} },
	} {
		c := conf.Default()
		bend(&c)
		if f, e := New(c); f != nil || e != api.ErrArg {
			t.Error(i, f, e)
		}
	}
}

// TestEdgesOfCounts: the furthest counts that have a thrust, and the next ones that haven't.
func TestEdgesOfCounts(t *testing.T) {
	for _, x := range []struct {
		count int64
		want  answer
	}{
		{2048, answer{0, false, false, 0}},
		{2047, answer{-1 << 29, false, false, 0}},
		{0, answer{-1 << 40, false, false, 0}},
		{32767, answer{30719 << 29, false, false, 0}},
		{-32767, answer{-34815 << 29, false, false, 0}},
		{32768, answer{7 << 29, true, false, 1}},
		{-32768, answer{7 << 29, true, false, 1}},
		{32769, answer{7 << 29, true, false, 1}},
		{math.MaxInt64, answer{7 << 29, true, false, 1}},
		{math.MinInt64, answer{7 << 29, true, false, 1}},
		{math.MinInt64 + 1, answer{7 << 29, true, false, 1}},
	} {
		f := made(t, conf.Default())
		in(f, 2055)
		if a := in(f, x.count); a != x.want {
			t.Error(x.count, a, "want", x.want)
		}
	}
}

// TestLost: with as many in a row as Hold a feed isn't lost, with one more it is, and stays so.
func TestLost(t *testing.T) {
	for _, hold := range []int64{0, 1, 2, 32, 1000} {
		f := made(t, holding(hold))
		in(f, 2049)
		for n := int64(1); n <= hold+5; n++ {
			if a := in(f, 32768); a != (answer{1 << 29, true, n > hold, n}) {
				t.Error(hold, n, a)
			}
		}
		if a := in(f, 2050); a != (answer{2 << 29, false, false, 0}) {
			t.Error(hold, a)
		}
		if a := in(f, -32768); a != (answer{2 << 29, true, hold == 0, 1}) {
			t.Error(hold, a)
		}
	}
}

// TestEveryOrder: every row of seven counts, clipped ones and others, on a feed that is asked all things, on one that is asked nothing between, and on copies of copies.
func TestEveryOrder(t *testing.T) {
	alphabet := []int64{2050, 2047, 32768, math.MinInt64}
	for _, hold := range []int64{0, 2} {
		c := holding(hold)
		for n := range 1 << 14 {
			var counts []int64
			asked, quiet, copied := made(t, c), made(t, c), made(t, c)
			for i := range 7 {
				counts = append(counts, alphabet[n>>(2*i)&3])
				holds(t, asked, c, counts)
				quiet.In(counts[i])
				copied = copied.Copy()
				holds(t, copied, c, counts)
			}
			if got, want := quiet.Run(), wanted(c, counts).run; got != want {
				t.Error(counts, got, "want", want)
			}
		}
	}
}

// TestAsIfNoneHadBeen: behind a count that isn't clipped a feed is like a new one that was told this count alone.
func TestAsIfNoneHadBeen(t *testing.T) {
	for _, before := range [][]int64{{}, {40000}, {2000}, {40000, 40000, 40000, 40000}, {2000, -40000, -40000, -40000}, {40000, 2000, 40000, 5}} {
		f, fresh := made(t, holding(2)), made(t, holding(2))
		for _, count := range before {
			f.In(count)
		}
		for _, count := range []int64{2100, 40000, -40000, 40000, 40000, 2048, 40000} {
			if got, want := in(f, count), in(fresh, count); got != want {
				t.Error(before, count, got, "want", want)
			}
		}
	}
}

// TestCopy: each of both goes its own way, whichever is told, and what came before is in both.
func TestCopy(t *testing.T) {
	c := holding(2)
	f := made(t, c)
	told := []int64{2060, 40000, 40000}
	for _, count := range told {
		f.In(count)
	}
	g := f.Copy()
	if g == f {
		t.Fatal("it is the same feed")
	}
	if f.Run() != 2 || g.Run() != 2 {
		t.Error(f.Run(), g.Run())
	}
	ahead, behind := slices.Clone(told), slices.Clone(told)
	for _, count := range []int64{40000, -40000, 2070, 40000, 5, 40000} {
		behind = append(behind, count)
		holds(t, g, c, behind)
	}
	if f.Run() != 2 {
		t.Error("the copy was told, and the first one has it:", f.Run())
	}
	for _, count := range []int64{40000, 2071, 40000, 40000} {
		ahead = append(ahead, count)
		holds(t, f, c, ahead)
	}
	behind = append(behind, 40000)
	holds(t, g, c, behind)
}

// TestSeveral: what one feed is told doesn't tell on another, of the same configuration or of another one.
func TestSeveral(t *testing.T) {
	c, d := conf.Default(), conf.Default()
	d.Q, d.Loose = api.Vec{1, 2, 3}, api.Vec{4, 5, 6}
	d.Scale, d.Rest, d.Clip, d.Hold = 3, -5, 100, 0
	f, g, h := made(t, c), made(t, c), made(t, d)
	var ofF, ofH []int64
	for _, count := range []int64{99, 100, 2050, 40000, -99, -100, 0, 32768, 101} {
		ofF, ofH = append(ofF, count), append(ofH, count)
		holds(t, f, c, ofF)
		holds(t, h, d, ofH)
	}
	if g.Run() != 0 {
		t.Error(g.Run())
	}
	holds(t, g, c, []int64{40000})
}

// TestMemoryOfItsOwn: whoever writes into what was handed in or answered changes nothing.
func TestMemoryOfItsOwn(t *testing.T) {
	c := conf.Default()
	f := made(t, c)
	c.Q[0], c.Loose[0], c.Scale, c.Hold = 7, 1<<40, 1, 0
	q, loose := f.Add(false), f.Add(true)
	q[1], loose[1] = 7, 7
	holdsAdd(t, f, conf.Default())
	holds(t, f, conf.Default(), []int64{2049})
	holds(t, f, conf.Default(), []int64{2049, 40000})
}

// draws are fixed rows of numbers.
type draws struct{ x uint64 }

// from is a number from low to high, an edge now and then.
func (d *draws) from(low, high int64) int64 {
	d.x = d.x*6364136223846793005 + 1442695040888963407
	switch d.x >> 40 % 8 {
	case 0:
		return low
	case 1:
		return high
	}
	return low + int64(d.x>>12)%(high-low+1)
}

// conf is the usual configuration with other numbers where a feed looks.
func (d *draws) conf() api.Conf {
	c := conf.Default()
	for i := range 3 {
		c.Q[i] = d.from(0, 1<<50)
		c.Loose[i] = d.from(c.Q[i], 1<<50)
	}
	c.Clip = d.from(1, 1<<17)
	c.Rest = d.from(1-c.Clip, c.Clip-1)
	c.Scale = d.from(1, 1<<40)
	c.Hold = d.from(0, 5)
	return c
}

// count is one of a configuration: an edge, an extreme, or any.
func (d *draws) count(c api.Conf) int64 {
	edges := []int64{
		c.Rest, c.Clip, -c.Clip, c.Clip - 1, 1 - c.Clip, c.Clip + 1, -c.Clip - 1,
		math.MaxInt64, math.MinInt64, math.MinInt64 + 1, 1<<32 + c.Rest, c.Rest - 1<<32,
	}
	i := d.from(0, 3*int64(len(edges)))
	if i < int64(len(edges)) {
		return edges[i]
	}
	return d.from(1-c.Clip, c.Clip-1)
}

// TestOfDrawnOnes: drawn configurations, to their edges, and drawn counts; a copy takes over now and then.
func TestOfDrawnOnes(t *testing.T) {
	d := &draws{x: 44}
	for range 2000 {
		c := d.conf()
		f := made(t, c)
		var counts []int64
		for range 40 {
			counts = append(counts, d.count(c))
			holds(t, f, c, counts)
			if d.from(0, 9) == 3 {
				g := f.Copy()
				f.In(d.count(c))
				f = g
			}
		}
	}
}
