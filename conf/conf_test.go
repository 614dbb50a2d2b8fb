package conf

import (
	"math"
	"math/big"
	"strings"
	"testing"

	"aneroid/api"
	"aneroid/fix"
)

// part is a number of a configuration: where it stands, its rule, and from where to where it may be while the others are as usual.
type part struct {
	name      string
	at        func(c *api.Conf) *int64
	rule      int
	low, high int64
}

func parts() []part {
	return []part{
		{"Q 0", func(c *api.Conf) *int64 { return &c.Q[0] }, 1, 0, 1 << 50},
		{"Q 1", func(c *api.Conf) *int64 { return &c.Q[1] }, 1, 0, 1 << 50},
		{"Q 2", func(c *api.Conf) *int64 { return &c.Q[2] }, 1, 0, 1 << 50},
		{"Loose 0", func(c *api.Conf) *int64 { return &c.Loose[0] }, 2, 1 << 10, 1 << 50},
		{"Loose 1", func(c *api.Conf) *int64 { return &c.Loose[1] }, 2, 1 << 16, 1 << 50},
		{"Loose 2", func(c *api.Conf) *int64 { return &c.Loose[2] }, 2, 1 << 8, 1 << 50},
		{"R", func(c *api.Conf) *int64 { return &c.R }, 3, 1 << 38, 1 << 50},
		{"RGround", func(c *api.Conf) *int64 { return &c.RGround }, 4, 1 << 38, 1 << 50},
		{"Floor 0", func(c *api.Conf) *int64 { return &c.Floor[0] }, 5, 0, 1 << 50},
		{"Floor 1", func(c *api.Conf) *int64 { return &c.Floor[1] }, 5, 0, 1 << 48},
		{"Floor 2", func(c *api.Conf) *int64 { return &c.Floor[2] }, 5, 0, 1 << 44},
		{"Ceil 0", func(c *api.Conf) *int64 { return &c.Ceil[0] }, 5, 1 << 8, 1 << 56},
		{"Ceil 1", func(c *api.Conf) *int64 { return &c.Ceil[1] }, 5, 1 << 8, 1 << 56},
		{"Ceil 2", func(c *api.Conf) *int64 { return &c.Ceil[2] }, 5, 1 << 8, 1 << 56},
		{"Start 0", func(c *api.Conf) *int64 { return &c.Start[0] }, 6, 1 << 8, 1 << 50},
		{"Start 1", func(c *api.Conf) *int64 { return &c.Start[1] }, 6, 1 << 8, 1 << 48},
		{"Start 2", func(c *api.Conf) *int64 { return &c.Start[2] }, 6, 1 << 8, 1 << 44},
		{"Bound 0", func(c *api.Conf) *int64 { return &c.Bound[0] }, 7, 1 << 54, 1 << 56},
		{"Bound 1", func(c *api.Conf) *int64 { return &c.Bound[1] }, 7, 0, 1 << 56},
		{"Bound 2", func(c *api.Conf) *int64 { return &c.Bound[2] }, 7, 0, 1 << 56},
		{"Gate", func(c *api.Conf) *int64 { return &c.Gate }, 8, 1, 1000},
		{"Table 0", func(c *api.Conf) *int64 { return &c.Table[0] }, 9, 0, 1 << 40},
		{"Table 1", func(c *api.Conf) *int64 { return &c.Table[1] }, 9, -1 << 42, 1 << 42},
		{"Table 2", func(c *api.Conf) *int64 { return &c.Table[2] }, 9, -1 << 42, 1 << 42},
		{"Scale", func(c *api.Conf) *int64 { return &c.Scale }, 10, 1, 1 << 40},
		{"Rest", func(c *api.Conf) *int64 { return &c.Rest }, 11, -32767, 32767},
		{"Clip", func(c *api.Conf) *int64 { return &c.Clip }, 11, 2049, 1 << 17},
		{"Hold", func(c *api.Conf) *int64 { return &c.Hold }, 12, 0, 1000},
		{"Coast", func(c *api.Conf) *int64 { return &c.Coast }, 13, 1, 1280},
		{"Out", func(c *api.Conf) *int64 { return &c.Out }, 13, 64, 100000},
		{"Band", func(c *api.Conf) *int64 { return &c.Band }, 14, 0, 400000},
	}
}

// bent is the usual configuration with one number as told; where another rule's numbers hang on it, they are moved out of its way.
func bent(p part, x int64) api.Conf {
	c := Default()
	switch strings.Fields(p.name)[0] {
	case "Q":
		c.Loose = same(1 << 50)
	case "R":
		c.RGround = 1 << 50
	case "Floor":
		c.Start = c.Ceil
	case "Ceil":
		c.Start = c.Floor
	}
	*p.at(&c) = x
	return c
}

// beyond are numbers outside of low to high, the next ones and the furthest.
func beyond(low, high int64) []int64 {
	return []int64{
		low - 1, high + 1, math.MinInt64, math.MinInt64 + 1, math.MaxInt64, math.MaxInt64 - 1, low - 1<<62, high + 1<<62,
		-high - 1<<57, 1 << 57, 1 << 58, 1<<58 + 1, -1 << 58,
	}
}

func TestExampleOfTheDocument(t *testing.T) {
	c := Default()
	c.Gate = 0
	if n := Check(c); n != 8 {
		t.Error(n)
	}
}

func TestDefault(t *testing.T) {
	c := Default()
	want := api.Conf{
		Q: api.Vec{1024, 65536, 256}, Loose: api.Vec{16384, 4194304, 4096},
		R: 274877906944, RGround: 4398046511104,
		Start: api.Vec{4398046511104, 1099511627776, 68719476736}, Floor: api.Vec{256, 256, 256},
		Ceil:  api.Vec{1125899906842624, 281474976710656, 17592186044416},
		Bound: api.Vec{18014398509481984, 562949953421312, 8796093022208},
		Gate:  9, Table: api.Vec{34359738368, 17179869184, -1073741824},
		Scale: 536870912, Rest: 2048, Clip: 32768, Hold: 32, Coast: 64, Out: 1280, Band: 240,
	}
	if c != want {
		t.Error(c, want)
	}
	if n := Check(c); n != 0 {
		t.Error(n)
	}
}

func TestEachNumberWithinItsEdges(t *testing.T) {
	for _, p := range parts() {
		for _, x := range []int64{p.low, p.low + 1, p.low/2 + p.high/2, p.high - 1, p.high} {
			if n := Check(bent(p, x)); n != 0 {
				t.Error(p.name, x, n)
			}
		}
	}
}

func TestEachNumberBeyondItsEdges(t *testing.T) {
	for _, p := range parts() {
		for _, x := range beyond(p.low, p.high) {
			if n := Check(bent(p, x)); n != p.rule {
				t.Error(p.name, x, n)
			}
		}
	}
}

func TestNumbersThatHangOnOthers(t *testing.T) {
	for i, x := range []struct {
		bend func(c *api.Conf)
		rule int
	}{
		{func(c *api.Conf) { c.Q[0] = 1<<14 + 1 }, 2},
		{func(c *api.Conf) { c.Q[1], c.Loose[1] = 1<<50, 1<<50 }, 0},
		{func(c *api.Conf) { c.Q[2], c.Loose[2] = 0, 0 }, 0},
		{func(c *api.Conf) { c.Q[2], c.Loose[2] = 0, -1 }, 2},
		{func(c *api.Conf) { c.R, c.RGround = 1<<50, 1<<50 }, 0},
		{func(c *api.Conf) { c.R, c.RGround = 1<<50, 1<<50-1 }, 4},
		{func(c *api.Conf) { c.R, c.RGround = 1<<50+1, 1<<50+1 }, 3},
		{func(c *api.Conf) { c.Floor, c.Ceil, c.Start = api.Vec{}, api.Vec{}, api.Vec{} }, 0},
		{func(c *api.Conf) { c.Floor, c.Ceil, c.Start = same(1<<56), same(1<<56), same(1<<56) }, 0},
		{func(c *api.Conf) { c.Floor, c.Ceil, c.Start = same(1<<56), same(1<<56), same(1<<56-1) }, 6},
		{func(c *api.Conf) { c.Floor, c.Ceil, c.Start = same(1<<56), same(1<<56), same(1<<56+1) }, 6},
		{func(c *api.Conf) { c.Floor[1], c.Ceil[1], c.Start[1] = 7, 6, 7 }, 5},
		{func(c *api.Conf) { c.Floor[2], c.Ceil[2], c.Start[2] = -1, -1, -1 }, 5},
		{func(c *api.Conf) { c.Rest, c.Clip = 0, 1 }, 0},
		{func(c *api.Conf) { c.Rest, c.Clip = 1, 1 }, 11},
		{func(c *api.Conf) { c.Rest, c.Clip = -1, 1 }, 11},
		{func(c *api.Conf) { c.Rest, c.Clip = 0, 0 }, 11},
		{func(c *api.Conf) { c.Rest, c.Clip = 0, -1 }, 11},
		{func(c *api.Conf) { c.Rest, c.Clip = 0, math.MinInt64 }, 11},
		{func(c *api.Conf) { c.Rest, c.Clip = math.MinInt64, math.MinInt64 }, 11},
		{func(c *api.Conf) { c.Rest, c.Clip = 1<<17-1, 1<<17 }, 0},
		{func(c *api.Conf) { c.Rest, c.Clip = 1-1<<17, 1<<17 }, 0},
		{func(c *api.Conf) { c.Rest, c.Clip = 1<<17, 1<<17 }, 11},
		{func(c *api.Conf) { c.Rest, c.Clip = -1<<17, 1<<17 }, 11},
		{func(c *api.Conf) { c.Rest, c.Clip = 1<<17, 1<<17+1 }, 11},
		{func(c *api.Conf) { c.Rest, c.Clip = math.MaxInt64-1, math.MaxInt64 }, 11},
		{func(c *api.Conf) { c.Coast, c.Out = 1, 1 }, 0},
		{func(c *api.Conf) { c.Coast, c.Out = 0, 0 }, 13},
		{func(c *api.Conf) { c.Coast, c.Out = 2, 1 }, 13},
		{func(c *api.Conf) { c.Coast, c.Out = 100000, 100000 }, 0},
		{func(c *api.Conf) { c.Coast, c.Out = 100001, 100001 }, 13},
		{func(c *api.Conf) { c.Coast, c.Out = -5, -1 }, 13},
	} {
		c := Default()
		x.bend(&c)
		if n := Check(c); n != x.rule {
			t.Error(i, n, "want", x.rule)
		}
	}
}

// TestFirstRule breaks two rules at once, each two: the lesser number is told.
func TestFirstRule(t *testing.T) {
	for _, p := range parts() {
		for _, q := range parts() {
			c := bent(p, math.MinInt64)
			*q.at(&c) = math.MinInt64
			if n := Check(c); n != min(p.rule, q.rule) {
				t.Error(p.name, q.name, n)
			}
		}
	}
	if n := Check(api.Conf{}); n != 3 {
		t.Error(n)
	}
}

// draws are fixed rows of numbers.
type draws struct{ x uint64 }

func (d *draws) bits() uint64 {
	d.x = d.x*6364136223846793005 + 1442695040888963407
	return d.x >> 1
}

// from low to high, an edge now and then.
func (d *draws) from(low, high int64) int64 {
	switch d.bits() >> 20 % 8 {
	case 0:
		return low
	case 1:
		return high
	}
	return low + int64(d.bits()>>6)%(high-low+1)
}

func (d *draws) vec(low, high int64) api.Vec {
	return api.Vec{d.from(low, high), d.from(low, high), d.from(low, high)}
}

// conf is one that keeps all rules.
func (d *draws) conf() api.Conf {
	c := api.Conf{
		Q: d.vec(0, 1<<50), R: d.from(1<<38, 1<<50), Floor: d.vec(0, 1<<56), Bound: d.vec(0, 1<<56),
		Gate: d.from(1, 1000), Table: d.vec(-1<<42, 1<<42), Scale: d.from(1, 1<<40), Clip: d.from(1, 1<<17),
		Hold: d.from(0, 1000), Out: d.from(1, 100000), Band: d.from(0, 400000),
	}
	for i := range 3 {
		c.Loose[i] = d.from(c.Q[i], 1<<50)
		c.Ceil[i] = d.from(c.Floor[i], 1<<56)
		c.Start[i] = d.from(c.Floor[i], c.Ceil[i])
	}
	c.RGround = d.from(c.R, 1<<50)
	c.Bound[0] = d.from(1<<54, 1<<56)
	c.Table[0] = d.from(0, 1<<40)
	c.Rest = d.from(1-c.Clip, c.Clip-1)
	c.Coast = d.from(1, c.Out)
	return c
}

// wantedThrust is what Thrust has to answer of a configuration that keeps all rules, in whole numbers of any size.
func wantedThrust(c api.Conf, count int64) (*big.Int, api.Errno) {
	if new(big.Int).Abs(big.NewInt(count)).Cmp(big.NewInt(c.Clip)) >= 0 {
		return new(big.Int), api.ErrRange
	}
	more := new(big.Int).Sub(big.NewInt(count), big.NewInt(c.Rest))
	return more.Mul(more, big.NewInt(c.Scale)), api.OK
}

func holdsThrust(t *testing.T, c api.Conf, count int64) {
	t.Helper()
	got, e := Thrust(c, count)
	want, ee := wantedThrust(c, count)
	if big.NewInt(got).Cmp(want) != 0 || e != ee {
		t.Error(c.Rest, c.Clip, c.Scale, count, got, e, "want", want, ee)
	}
	if !fix.Fits(got) {
		t.Error(c.Rest, c.Clip, c.Scale, count, got, "doesn't fit")
	}
}

func TestThrust(t *testing.T) {
	c := Default()
	for _, x := range []struct {
		count, want int64
		e           api.Errno
	}{
		{2048, 0, api.OK}, {2049, 1 << 29, api.OK}, {2047, -1 << 29, api.OK}, {0, -1 << 40, api.OK},
		{32767, 30719 << 29, api.OK}, {-32767, -34815 << 29, api.OK},
		{32768, 0, api.ErrRange}, {-32768, 0, api.ErrRange}, {32769, 0, api.ErrRange}, {-32769, 0, api.ErrRange},
		{math.MaxInt64, 0, api.ErrRange}, {math.MinInt64, 0, api.ErrRange}, {math.MinInt64 + 1, 0, api.ErrRange},
	} {
		if y, e := Thrust(c, x.count); y != x.want || e != x.e {
			t.Error(x.count, y, e)
		}
	}
}

func TestThrustOfDrawnOnes(t *testing.T) {
	d := &draws{x: 38}
	for range 5000 {
		c := d.conf()
		if n := Check(c); n != 0 {
			t.Fatal(c, n)
		}
		for _, count := range []int64{
			c.Rest, c.Rest + 1, c.Rest - 1, c.Clip, c.Clip - 1, c.Clip + 1, -c.Clip, 1 - c.Clip, -c.Clip - 1, 0,
			d.from(1-c.Clip, c.Clip-1), d.from(-1<<18, 1<<18), math.MaxInt64, math.MinInt64,
		} {
			holdsThrust(t, c, count)
		}
	}
}

// TestGreatestThrusts: the furthest counts from the furthest rests, at the greatest scale.
func TestGreatestThrusts(t *testing.T) {
	c := Default()
	c.Clip, c.Scale = 1<<17, 1<<40
	for _, rest := range []int64{1<<17 - 1, 1 - 1<<17, 0} {
		c.Rest = rest
		for _, count := range []int64{1<<17 - 1, 1 - 1<<17, 1 << 17, -1 << 17} {
			holdsThrust(t, c, count)
		}
	}
	c.Rest = 1 - 1<<17
	if y, e := Thrust(c, 1<<17-1); y != 1<<58-1<<41 || e != api.OK {
		t.Error(y, e)
	}
}

// TestThrustOfWrongOnes: a configuration that breaks a rule goes ahead of a count that isn't in range.
func TestThrustOfWrongOnes(t *testing.T) {
	for _, p := range parts() {
		for _, x := range beyond(p.low, p.high) {
			for _, count := range []int64{0, 2048, 32768, math.MinInt64} {
				if y, e := Thrust(bent(p, x), count); y != 0 || e != api.ErrArg {
					t.Error(p.name, x, count, y, e)
				}
			}
		}
	}
	if y, e := Thrust(api.Conf{}, 0); y != 0 || e != api.ErrArg {
		t.Error(y, e)
	}
}

func TestHandedIn(t *testing.T) {
	c := Default()
	c.Q[0] = 77
	if Default().Q[0] != 1<<10 {
		t.Error("what was answered is shared")
	}
}
