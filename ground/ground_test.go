package ground

import (
	"math"
	"math/big"
	"testing"

	"aneroid/api"
	"aneroid/atmos"
)

const (
	// noise and rough are those of most grounds here.
	noise = int64(7)
	rough = int64(9)
)

// good is what the document says of a count, with its numbers.
func good(count int64) bool { return 90528 <= count && count <= 430515 }

// answer is what a ground tells of a count.
type answer struct {
	altitude, noise int64
	near            bool
	e               api.Errno
}

// said is a ground that keeps all that was set, good or not, to hold a ground against.
type said struct {
	band, noise, rough int64
	sets               []int64
}

// known is the first good count that was set.
func (s *said) known() (int64, bool) {
	for _, count := range s.sets {
		if good(count) {
			return count, true
		}
	}
	return 0, false
}

func (s *said) set(count int64) api.Errno {
	_, known := s.known()
	s.sets = append(s.sets, count)
	switch {
	case !good(count):
		return api.ErrRange
	case known:
		return api.ErrFull
	}
	return api.OK
}

// near is by whole numbers of any size.
func (s *said) near(count int64) bool {
	ground, known := s.known()
	if !known || !good(count) {
		return false
	}
	least := big.NewInt(ground)
	if s.band > 0 {
		least.Sub(least, big.NewInt(s.band))
	}
	return big.NewInt(count).Cmp(least) >= 0
}

func (s *said) level(count int64) answer {
	if !good(count) {
		return answer{e: api.ErrRange}
	}
	if !s.near(count) {
		return answer{altitude: altitude(count), noise: s.noise}
	}
	// The greater count is the lower one.
	ground, _ := s.known()
	return answer{altitude: altitude(min(count, ground)), noise: s.rough, near: true}
}

// altitude is a good count's.
func altitude(count int64) int64 {
	h, e := atmos.Altitude(count)
	if e != api.OK {
		panic("not good")
	}
	return h
}

// pair are a ground and what it is held against.
func pair(band, noise, rough int64) (*Ground, *said) {
	return New(band, noise, rough), &said{band: band, noise: noise, rough: rough}
}

// told is what a ground tells of a count's level.
func told(g *Ground, count int64) answer {
	var a answer
	a.altitude, a.noise, a.near, a.e = g.Level(count)
	return a
}

// asked asks a ground for all that it tells with a count.
func asked(t *testing.T, g *Ground, s *said, count int64) {
	t.Helper()
	ground, known := s.known()
	if got, ok := g.Known(); got != ground || ok != known {
		t.Fatal(*s, "known", got, ok, "want", ground, known)
	}
	if got, want := g.Near(count), s.near(count); got != want {
		t.Fatal(*s, count, "near", got, "want", want)
	}
	if got, want := told(g, count), s.level(count); got != want {
		t.Fatal(*s, count, "level", got, "want", want)
	}
}

// set sets both.
func set(t *testing.T, g *Ground, s *said, count int64) {
	t.Helper()
	before := *s
	if got, want := g.Set(count), s.set(count); got != want {
		t.Fatal(before, "set", count, got, "want", want)
	}
}

// counts are good ones and wrong ones, some of them wrong but for 32 bits.
var counts = []int64{
	90528, 90529, 200000, 299899, 299900, 300000, 300001, 399759, 399760, 400000, 405300, 430514, 430515,
	90527, 430516, 1, 0, -1, -90528, -300000, -430515, 1<<32 + 300000, 300000 - 1<<32,
	math.MaxInt64, math.MinInt64, math.MinInt64 + 300000,
}

// bands are small ones, great ones, and ones below 0.
var bands = []int64{
	0, 1, 2, 100, 240, 339986, 339987, 339988, 1 << 32, math.MaxInt64 - 1, math.MaxInt64,
	-1, -2, -240, -1 << 32, math.MinInt64 + 1, math.MinInt64,
}

// draws are numbers that are the same each time.
func draws(seed uint64) func(n int64) int64 {
	return func(n int64) int64 {
		seed = seed*6364136223846793005 + 1442695040888963407
		return int64(seed>>33) % n
	}
}

func TestExampleOfTheDocument(t *testing.T) {
	g := New(240, noise, rough)
	if e := g.Set(400000); e != api.OK {
		t.Fatal(e)
	}
	if !g.Near(399760) || g.Near(399759) {
		t.Error(g.Near(399760), g.Near(399759))
	}
}

// TestWrittenOut: levels that stand as numbers, about the ground 405300, whose altitude is 0.
func TestWrittenOut(t *testing.T) {
	g := New(1, noise, rough)
	g.Set(405300)
	for _, x := range []struct {
		count int64
		want  answer
	}{
		{430515, answer{0, rough, true, api.OK}},
		{417754, answer{0, rough, true, api.OK}},
		{405301, answer{0, rough, true, api.OK}},
		{405300, answer{0, rough, true, api.OK}},
		{405299, answer{23164758185, rough, true, api.OK}},
		{405298, answer{46329516370, noise, false, api.OK}},
		{393149, answer{256 << 40, noise, false, api.OK}},
		{90528, answer{12094777232903393, noise, false, api.OK}},
		{90527, answer{0, 0, false, api.ErrRange}},
		{430516, answer{0, 0, false, api.ErrRange}},
	} {
		if got := told(g, x.count); got != x.want {
			t.Error(x.count, got, "want", x.want)
		}
	}
}

// TestLiftedToTheGround: to altitudes below 0, above it, and to the greatest there is.
func TestLiftedToTheGround(t *testing.T) {
	for _, x := range []struct{ ground, altitude int64 }{
		{417754, -256 << 40}, {430515, -512 << 40}, {393149, 256 << 40}, {90528, 12094777232903393},
	} {
		g := New(0, noise, rough)
		g.Set(x.ground)
		if got, want := told(g, 430515), (answer{x.altitude, rough, true, api.OK}); got != want {
			t.Error(x, got, "want", want)
		}
	}
}

func TestNewOneIsNotKnown(t *testing.T) {
	for _, band := range bands {
		g, s := pair(band, noise, rough)
		for _, count := range counts {
			asked(t, g, s, count)
		}
	}
}

// TestNotKnown: no count is near a ground that isn't known, whatever the band; no level is lifted, nor rough.
func TestNotKnown(t *testing.T) {
	g := New(math.MaxInt64, noise, rough)
	if count, known := g.Known(); count != 0 || known {
		t.Error(count, known)
	}
	for _, count := range []int64{90528, 405300, 430515} {
		if g.Near(count) {
			t.Error(count)
		}
	}
	if got, want := told(g, 430515), (answer{-512 << 40, noise, false, api.OK}); got != want {
		t.Error(got, "want", want)
	}
}

func TestSetTwice(t *testing.T) {
	g := New(0, noise, rough)
	for _, x := range []struct {
		count int64
		want  api.Errno
	}{
		{90527, api.ErrRange}, {430516, api.ErrRange}, {0, api.ErrRange},
		{300000, api.OK},
		{300000, api.ErrFull}, {90528, api.ErrFull}, {430515, api.ErrFull},
		{90527, api.ErrRange}, {430516, api.ErrRange}, {0, api.ErrRange},
	} {
		if got := g.Set(x.count); got != x.want {
			t.Error(x.count, got, "want", x.want)
		}
	}
	if count, known := g.Known(); count != 300000 || !known {
		t.Error(count, known)
	}
}

// TestWrongSetLeavesItUnknown: a count that isn't good is told, and a good one may be set yet.
func TestWrongSetLeavesItUnknown(t *testing.T) {
	for _, wrong := range counts {
		if good(wrong) {
			continue
		}
		g, s := pair(240, noise, rough)
		set(t, g, s, wrong)
		asked(t, g, s, 400000)
		set(t, g, s, 399999)
		asked(t, g, s, 400000)
	}
}

func TestEveryGoodCountMayBeTheGround(t *testing.T) {
	for count := int64(90528); count <= 430515; count++ {
		g := New(0, noise, rough)
		if e := g.Set(count); e != api.OK {
			t.Fatal(count, e)
		}
		if got, known := g.Known(); got != count || !known || !g.Near(count) || g.Near(count-1) {
			t.Fatal(count, got, known, g.Near(count), g.Near(count-1))
		}
	}
}

// TestEdgesOfBands: each band, on grounds at both ends and between, with counts about where it ends.
func TestEdgesOfBands(t *testing.T) {
	for _, band := range bands {
		for _, ground := range []int64{90528, 90529, 300000, 430514, 430515} {
			g, s := pair(band, noise, rough)
			set(t, g, s, ground)
			for _, count := range counts {
				asked(t, g, s, count)
			}
			for d := int64(-2); d <= 2; d++ {
				asked(t, g, s, ground+d)
				// With some bands these aren't good, or wrap round: they are asked for all the same.
				asked(t, g, s, ground-band+d)
			}
		}
	}
}

// TestBandBelowZeroCountsAsZero: whatever a ground is asked, the band 0 answers the same.
func TestBandBelowZeroCountsAsZero(t *testing.T) {
	for _, band := range bands {
		if band >= 0 {
			continue
		}
		g, zero := New(band, noise, rough), New(0, noise, rough)
		g.Set(300000)
		zero.Set(300000)
		for count := int64(299990); count < 300010; count++ {
			if a, b := told(g, count), told(zero, count); a != b || g.Near(count) != zero.Near(count) {
				t.Error(band, count, a, b)
			}
		}
		if !g.Near(300000) || g.Near(299999) {
			t.Error(band, g.Near(300000), g.Near(299999))
		}
	}
}

// TestNoisesAreToldAsTheyAre: numbers of any size, below 0 too, and both the same.
func TestNoisesAreToldAsTheyAre(t *testing.T) {
	edges := []int64{0, 1, -1, 1 << 58, 1<<58 + 1, math.MaxInt64, math.MinInt64}
	for _, noise := range edges {
		for _, rough := range edges {
			g := New(100, noise, rough)
			if got, want := told(g, 300000), (answer{altitude(300000), noise, false, api.OK}); got != want {
				t.Error(noise, rough, got, "want", want)
			}
			g.Set(300000)
			if got, want := told(g, 299900), (answer{altitude(299900), rough, true, api.OK}); got != want {
				t.Error(noise, rough, got, "want", want)
			}
			if got, want := told(g, 299899), (answer{altitude(299899), noise, false, api.OK}); got != want {
				t.Error(noise, rough, got, "want", want)
			}
			if got := told(g, 90527); got != (answer{e: api.ErrRange}) {
				t.Error(noise, rough, got)
			}
		}
	}
}

// TestNotBelow: near the ground no level is below the ground's altitude; away from it, it is above that. All good counts are asked for.
func TestNotBelow(t *testing.T) {
	for _, ground := range []int64{90528, 90529, 200000, 405300, 417754, 430514, 430515} {
		for _, band := range []int64{-1, 0, 1, 240, 100000, math.MaxInt64} {
			g := New(band, noise, rough)
			g.Set(ground)
			floor := altitude(ground)
			for count := int64(90528); count <= 430515; count++ {
				h, n, near, e := g.Level(count)
				if e != api.OK || near != g.Near(count) || h < floor || !near && (h == floor || n != noise) || near && n != rough {
					t.Fatal(ground, band, count, h, n, near, e)
				}
			}
		}
	}
}

// TestLiftedJustWhereItIsLower: near the ground a level that isn't lower than the ground is the count's own.
func TestLiftedJustWhereItIsLower(t *testing.T) {
	g := New(math.MaxInt64, noise, rough)
	g.Set(300000)
	for count := int64(90528); count <= 430515; count++ {
		h, _, near, e := g.Level(count)
		own := altitude(count)
		lifted := count > 300000
		if e != api.OK || !near || lifted && (own >= h || h != altitude(300000)) || !lifted && h != own {
			t.Fatal(count, h, own, near, e)
		}
	}
}

// TestEveryOrder: every row of six calls that set or ask, on several bands; one ground is asked all things between, one nothing.
func TestEveryOrder(t *testing.T) {
	alphabet := []int64{400000, 399759, 90527, 430515}
	for _, band := range []int64{-240, 0, 240, 241, math.MaxInt64} {
		for n := range 1 << 12 {
			g, s := pair(band, noise, rough)
			quiet := New(band, noise, rough)
			for i := range 6 {
				count := alphabet[n>>(2*i)&3]
				asked(t, g, s, alphabet[(n+i)&3])
				set(t, g, s, count)
				for _, other := range alphabet {
					asked(t, g, s, other)
					asked(t, g, s, other)
				}
				quiet.Set(count)
			}
			for _, other := range alphabet {
				asked(t, quiet, s, other)
			}
		}
	}
}

// TestSeveral: what one ground is told doesn't tell on another.
func TestSeveral(t *testing.T) {
	g, s := pair(240, noise, rough)
	h, u := pair(1000, rough, noise)
	untold, none := pair(500, 1, 2)
	set(t, g, s, 400000)
	set(t, h, u, 300000)
	for _, count := range counts {
		asked(t, g, s, count)
		asked(t, h, u, count)
		asked(t, untold, none, count)
	}
}

// TestOfDrawnOnes: drawn grounds, with drawn counts, some of them about where the band ends.
func TestOfDrawnOnes(t *testing.T) {
	draw := draws(53)
	for range 20000 {
		band := draw(2000) - 100
		if draw(5) == 0 {
			band = bands[draw(int64(len(bands)))]
		}
		g, s := pair(band, draw(1000)-500, draw(1000)-500)
		for range 1 + draw(3) {
			ground := 90000 + draw(342000)
			set(t, g, s, ground)
			asked(t, g, s, 90000+draw(342000))
			asked(t, g, s, ground-band+draw(5)-2)
			asked(t, g, s, ground+draw(5)-2)
			asked(t, g, s, counts[draw(int64(len(counts)))])
		}
	}
}
