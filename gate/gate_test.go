package gate

import (
	"math"
	"math/big"
	"testing"

	"aneroid/api"
)

const (
	point = int64(1) << 40
	most  = int64(1) << 58
)

// wrong are numbers that don't fit.
func wrong() []int64 {
	return []int64{most + 1, -most - 1, 2 * most, -2 * most, math.MaxInt64, math.MinInt64, math.MinInt64 + 1}
}

// edges are numbers that fit: the greatest, powers of 2 and of them thousandfold, with their neighbours.
func edges() []int64 {
	l := []int64{0, most, -most, most - 1, 1 - most, most / 2, -most / 2, most/2 + 1, 31 * point, 32 * point}
	for _, n := range []int{0, 1, 2, 9, 10, 18, 19, 20, 21, 29, 30, 39, 40, 41, 49, 57} {
		for _, k := range []int64{1, 3, 1000} {
			p := min(k<<n, most-1)
			l = append(l, p, -p, p+1, -p-1, p-1, 1-p)
		}
	}
	return l
}

// drawn is a fixed row of numbers in all sizes, edges and numbers that don't fit among them.
func drawn() func() int64 {
	fit, unfit := edges(), wrong()
	x := uint64(31)
	next := func() uint64 {
		x = x*6364136223846793005 + 1442695040888963407
		return x >> 1
	}
	return func() int64 {
		switch next() >> 20 % 64 {
		case 0:
			return unfit[next()>>20%uint64(len(unfit))]
		case 1, 2, 3, 4, 5, 6, 7, 8, 9, 10, 11, 12, 13, 14, 15:
			return fit[next()>>20%uint64(len(fit))]
		}
		return int64(next()<<1) >> (6 + next()>>20%56)
	}
}

func allFit(l ...int64) bool {
	for _, x := range l {
		if x < -most || x > most {
			return false
		}
	}
	return true
}

// wantedLook is what Look has to answer.
func wantedLook(x api.Vec, p api.Sym, sample, noise int64) (int64, int64, api.Errno) {
	if !allFit(x[:]...) || !allFit(p[:]...) || !allFit(sample, noise) || noise < 1 || p[0] < 0 {
		return 0, 0, api.ErrArg
	}
	// Two numbers that fit have sum and difference in 64 bits.
	if surprise, spread := sample-x[0], p[0]+noise; allFit(surprise, spread) {
		return surprise, spread, api.OK
	}
	return 0, 0, api.ErrFit
}

// perGate is the gate times the spread times 2^40, in whole numbers of any size.
func perGate(spread, gate int64) *big.Int {
	bound := new(big.Int).Mul(big.NewInt(spread), big.NewInt(gate))
	return bound.Lsh(bound, 40)
}

func square(x int64) *big.Int { return new(big.Int).Mul(big.NewInt(x), big.NewInt(x)) }

// wantedPass is what Pass has to answer, in whole numbers of any size.
func wantedPass(surprise, spread, gate int64) bool {
	return allFit(surprise, spread) && spread >= 1 && gate >= 0 && gate <= 1000 &&
		square(surprise).Cmp(perGate(spread, gate)) <= 0
}

// wantedLeast is what Least has to answer, in whole numbers of any size: the square through what one gate allows, rounded up.
func wantedLeast(surprise, spread int64) (int64, api.Errno) {
	if !allFit(surprise, spread) || spread < 1 {
		return 0, api.ErrArg
	}
	gate, rest := new(big.Int).QuoRem(square(surprise), perGate(spread, 1), new(big.Int))
	if rest.Sign() > 0 {
		gate.Add(gate, big.NewInt(1))
	}
	if gate.Cmp(big.NewInt(1000)) > 0 {
		return 0, api.ErrRange
	}
	return gate.Int64(), api.OK
}

// holdsLook tells an answer of Look that isn't as wanted.
func holdsLook(t *testing.T, x api.Vec, p api.Sym, sample, noise int64) api.Errno {
	t.Helper()
	surprise, spread, e := Look(x, p, sample, noise)
	wantSurprise, wantSpread, want := wantedLook(x, p, sample, noise)
	if surprise != wantSurprise || spread != wantSpread || e != want {
		t.Error(x, p, sample, noise, surprise, spread, e, "want", wantSurprise, wantSpread, want)
	}
	return e
}

// holdsPass tells an answer of Pass that isn't as wanted.
func holdsPass(t *testing.T, surprise, spread, gate int64) bool {
	t.Helper()
	passes := Pass(surprise, spread, gate)
	if passes != wantedPass(surprise, spread, gate) {
		t.Error(surprise, spread, gate, passes)
	}
	return passes
}

// holdsLeast tells an answer of Least that isn't as wanted, and a gate beside it that passes otherwise.
func holdsLeast(t *testing.T, surprise, spread int64) (int64, api.Errno) {
	t.Helper()
	gate, e := Least(surprise, spread)
	want, ee := wantedLeast(surprise, spread)
	if gate != want || e != ee {
		t.Error(surprise, spread, gate, e, "want", want, ee)
	}
	switch e {
	case api.OK:
		if !holdsPass(t, surprise, spread, gate) || holdsPass(t, surprise, spread, gate-1) {
			t.Error(surprise, spread, gate, "isn't the least")
		}
	default:
		if holdsPass(t, surprise, spread, 0) || holdsPass(t, surprise, spread, 1000) {
			t.Error(surprise, spread, "passes")
		}
	}
	return gate, e
}

func TestExampleOfTheDocument(t *testing.T) {
	if gate, e := Least(3*point, point); gate != 9 || e != api.OK {
		t.Error(gate, e)
	}
}

func TestLook(t *testing.T) {
	for _, c := range []struct {
		x                api.Vec
		p                api.Sym
		sample, noise    int64
		surprise, spread int64
		e                api.Errno
	}{
		{api.Vec{5}, api.Sym{7}, 12, 3, 7, 10, api.OK},
		{api.Vec{12}, api.Sym{7}, 5, 3, -7, 10, api.OK},
		{api.Vec{5, 100, 1000}, api.Sym{7, 20, 300, 4000, 50000, 600000}, 12, 3, 7, 10, api.OK},
		{api.Vec{5, -100, -1000}, api.Sym{7, -20, -300, -4000, -50000, -600000}, 12, 3, 7, 10, api.OK},
		{api.Vec{}, api.Sym{}, 0, 1, 0, 1, api.OK},
		{api.Vec{}, api.Sym{}, 0, 0, 0, 0, api.ErrArg},
		{api.Vec{}, api.Sym{5}, 0, 0, 0, 0, api.ErrArg},
		{api.Vec{}, api.Sym{5}, 0, -1, 0, 0, api.ErrArg},
		{api.Vec{}, api.Sym{5}, 0, -most, 0, 0, api.ErrArg},
		{api.Vec{}, api.Sym{-1}, 0, 1, 0, 0, api.ErrArg},
		{api.Vec{}, api.Sym{-1}, 0, 2, 0, 0, api.ErrArg},
		{api.Vec{}, api.Sym{-most}, 0, most, 0, 0, api.ErrArg},
		{api.Vec{}, api.Sym{}, 0, most, 0, most, api.OK},
		{api.Vec{}, api.Sym{1}, 0, most, 0, 0, api.ErrFit},
		{api.Vec{}, api.Sym{1}, 0, most - 1, 0, most, api.OK},
		{api.Vec{}, api.Sym{most - 1}, 0, 1, 0, most, api.OK},
		{api.Vec{}, api.Sym{most}, 0, 1, 0, 0, api.ErrFit},
		{api.Vec{}, api.Sym{most}, 0, most, 0, 0, api.ErrFit},
		{api.Vec{}, api.Sym{}, most, 1, most, 1, api.OK},
		{api.Vec{}, api.Sym{}, -most, 1, -most, 1, api.OK},
		{api.Vec{most}, api.Sym{}, 0, 1, -most, 1, api.OK},
		{api.Vec{-most}, api.Sym{}, 0, 1, most, 1, api.OK},
		{api.Vec{most}, api.Sym{}, most, 1, 0, 1, api.OK},
		{api.Vec{1}, api.Sym{}, -most, 1, 0, 0, api.ErrFit},
		{api.Vec{-1}, api.Sym{}, most, 1, 0, 0, api.ErrFit},
		{api.Vec{1}, api.Sym{}, 1 - most, 1, -most, 1, api.OK},
		{api.Vec{-1}, api.Sym{}, most - 1, 1, most, 1, api.OK},
		{api.Vec{most}, api.Sym{}, -most, 1, 0, 0, api.ErrFit},
		{api.Vec{-most}, api.Sym{most}, most, most, 0, 0, api.ErrFit},
		{api.Vec{-most}, api.Sym{}, most, 0, 0, 0, api.ErrArg},
		{api.Vec{-most}, api.Sym{-1}, most, 1, 0, 0, api.ErrArg},
	} {
		surprise, spread, e := Look(c.x, c.p, c.sample, c.noise)
		if surprise != c.surprise || spread != c.spread || e != c.e {
			t.Error(c, surprise, spread, e)
		}
		holdsLook(t, c.x, c.p, c.sample, c.noise)
	}
}

// TestLookWrong: one number that doesn't fit, wherever it stands, is ErrArg, ahead of what doesn't fit of the answer.
func TestLookWrong(t *testing.T) {
	for _, bad := range wrong() {
		for _, c := range []struct {
			x             api.Vec
			p             api.Sym
			sample, noise int64
		}{
			{api.Vec{}, api.Sym{}, 0, 1},
			{api.Vec{-most, most, most}, api.Sym{most, most, most, most, most, most}, most, most},
			{api.Vec{bad, bad, bad}, api.Sym{bad, bad, bad, bad, bad, bad}, bad, bad},
		} {
			for i := range c.x {
				x := c.x
				x[i] = bad
				wrongLook(t, x, c.p, c.sample, c.noise)
			}
			for place := range c.p {
				p := c.p
				p[place] = bad
				wrongLook(t, c.x, p, c.sample, c.noise)
			}
			wrongLook(t, c.x, c.p, bad, c.noise)
			wrongLook(t, c.x, c.p, c.sample, bad)
		}
	}
}

func wrongLook(t *testing.T, x api.Vec, p api.Sym, sample, noise int64) {
	t.Helper()
	if surprise, spread, e := Look(x, p, sample, noise); surprise != 0 || spread != 0 || e != api.ErrArg {
		t.Error(x, p, sample, noise, surprise, spread, e)
	}
}

func TestLookDrawn(t *testing.T) {
	next := drawn()
	var got [api.ErrFull + 1]int
	for range 40000 {
		x := api.Vec{next(), next(), next()}
		p := api.Sym{next() & math.MaxInt64, next(), next(), next(), next(), next()}
		got[holdsLook(t, x, p, next(), next())]++
		got[holdsLook(t, x, p, next(), max(next(), 1))]++
	}
	if got[api.OK] < 10000 || got[api.ErrArg] < 10000 || got[api.ErrFit] < 500 {
		t.Error("too few of a kind", got)
	}
}

func TestPass(t *testing.T) {
	for _, c := range []struct {
		surprise, spread, gate int64
		passes                 bool
	}{
		{point, point, 1, true}, {point + 1, point, 1, false}, {point - 1, point, 1, true},
		{point, point - 1, 1, false}, {point, point + 1, 1, true}, {point, point, 0, false},
		{0, 1, 0, true}, {0, most, 0, true}, {1, most, 0, false},
		{1, 1, 1, true}, {1 << 20, 1, 1, true}, {1<<20 + 1, 1, 1, false}, {1 << 20, 1, 0, false},
		{31 * point, point, 961, true}, {31 * point, point, 960, false},
		{1 << 49, most, 1, true}, {1<<49 + 1, most, 1, false},
		{most, most, 1000, false}, {most, 1, 1000, false},
		{10 << 40, point, 100, true}, {10<<40 + 1, point, 100, false},
		{10 << 20, 10, 10, true}, {10<<20 + 1, 10, 10, false},
		{1000 << 20, 1000, 1000, true}, {1000<<20 + 1, 1000, 1000, false}, {1000 << 20, 1000, 999, false},
		{0, 0, 1, false}, {0, -1, 1, false}, {0, -5, 0, false}, {0, -most, 1000, false}, {-1, -1, 1, false},
		{0, 1, -1, false}, {0, 1, 1001, false}, {0, 1, 1000, true}, {1, most, 1001, false},
		{0, 1, math.MaxInt64, false}, {0, 1, math.MinInt64, false}, {0, most, most, false},
		{most, most, 1 << 60, false}, {-most, most, -1, false},
	} {
		if Pass(c.surprise, c.spread, c.gate) != c.passes || Pass(-c.surprise, c.spread, c.gate) != c.passes {
			t.Error(c)
		}
		holdsPass(t, c.surprise, c.spread, c.gate)
	}
}

// TestUnfit: no surprise or spread that doesn't fit, and no spread below 1, passes a gate, or has a least one.
func TestUnfit(t *testing.T) {
	for _, bad := range wrong() {
		for _, other := range append(edges(), wrong()...) {
			for _, gate := range []int64{-1, 0, 1, 9, 1000, 1001} {
				if Pass(bad, other, gate) || Pass(other, bad, gate) {
					t.Error(bad, other, gate)
				}
			}
			wrongLeast(t, bad, other)
			wrongLeast(t, other, bad)
		}
	}
	for _, spread := range []int64{0, -1, -2, -point, -most} {
		for _, surprise := range edges() {
			for _, gate := range []int64{0, 1, 1000} {
				if Pass(surprise, spread, gate) {
					t.Error(surprise, spread, gate)
				}
			}
			wrongLeast(t, surprise, spread)
		}
	}
}

func wrongLeast(t *testing.T, surprise, spread int64) {
	t.Helper()
	if gate, e := Least(surprise, spread); gate != 0 || e != api.ErrArg {
		t.Error(surprise, spread, gate, e)
	}
}

func TestLeast(t *testing.T) {
	for _, c := range []struct {
		surprise, spread, gate int64
		e                      api.Errno
	}{
		{0, 1, 0, api.OK}, {0, most, 0, api.OK}, {1, 1, 1, api.OK}, {1, most, 1, api.OK},
		{2 * point, point, 4, api.OK}, {2*point + 1, point, 5, api.OK}, {2*point - 1, point, 4, api.OK},
		{2 * point, point + 1, 4, api.OK}, {2 * point, point - 1, 5, api.OK},
		{point, point, 1, api.OK}, {point + 1, point, 2, api.OK},
		{1 << 49, most, 1, api.OK}, {1<<49 + 1, most, 2, api.OK},
		{10 << 20, 10, 10, api.OK}, {1000 << 20, 1000, 1000, api.OK},
		{1000<<20 + 1, 1000, 0, api.ErrRange}, {1000<<20 - 1, 1000, 1000, api.OK},
		{31 * point, point, 961, api.OK}, {32 * point, point, 0, api.ErrRange},
		{most, most, 0, api.ErrRange}, {most, 1, 0, api.ErrRange},
	} {
		for _, surprise := range []int64{c.surprise, -c.surprise} {
			if gate, e := holdsLeast(t, surprise, c.spread); gate != c.gate || e != c.e {
				t.Error(surprise, c.spread, gate, e)
			}
		}
	}
}

// TestEachGate: each gate from 0 to 1000 is the least of the last surprise that passes it, and of no further one.
func TestEachGate(t *testing.T) {
	for _, spread := range []int64{1, 2, 999, 1000, point - 1, point, point + 1, most - 1, most} {
		for gate := range int64(1001) {
			last := new(big.Int).Sqrt(perGate(spread, gate)).Int64()
			if got, e := holdsLeast(t, last, spread); got != gate || e != api.OK {
				t.Error(last, spread, got, e)
			}
			got, e := holdsLeast(t, last+1, spread)
			if gate < 1000 && (got != gate+1 || e != api.OK) || gate == 1000 && e != api.ErrRange {
				t.Error(last+1, spread, got, e)
			}
		}
	}
}

func TestDrawn(t *testing.T) {
	next := drawn()
	var got [api.ErrFull + 1]int
	for range 20000 {
		surprise, spread := next(), next()
		for _, spread := range []int64{spread, max(spread, 1)} {
			for _, surprise := range []int64{surprise, nearby(next(), spread)} {
				_, e := holdsLeast(t, surprise, spread)
				got[e]++
				holdsPass(t, surprise, spread, next())
				holdsPass(t, surprise, spread, next()&1023)
			}
		}
	}
	if got[api.OK] < 10000 || got[api.ErrArg] < 5000 || got[api.ErrRange] < 3000 {
		t.Error("too few of a kind", got)
	}
}

// nearby is a surprise whose gate isn't far from the greatest: of what is drawn only its size is left.
func nearby(drawn, spread int64) int64 {
	bound := new(big.Int).Sqrt(perGate(max(spread, 1), 1040)).Int64()
	return drawn % (bound + 1)
}

// TestWider: what passes a gate passes each greater one, up to 1000; what is no further from 0 passes, too.
func TestWider(t *testing.T) {
	next := drawn()
	for range 300 {
		spread := max(next(), 1)
		surprise := nearby(next(), spread)
		passed := false
		for gate := range int64(1001) {
			passes := Pass(surprise, spread, gate)
			if passed && !passes {
				t.Error(surprise, spread, gate)
			}
			passed = passes
		}
		nearer(t, surprise, next, spread)
		if Pass(surprise, spread, 1001) {
			t.Error(surprise, spread)
		}
	}
}

// nearer holds surprises that are no further from 0 than this one against its gates.
func nearer(t *testing.T, surprise int64, next func() int64, spread int64) {
	t.Helper()
	for range 100 {
		gate := next() & math.MaxInt64 % 1001
		other := next() % (max(surprise, -surprise) + 1)
		for _, near := range []int64{other, -other, -surprise, 0} {
			if Pass(surprise, spread, gate) && !Pass(near, spread, gate) {
				t.Error(surprise, near, spread, gate)
			}
		}
	}
}

// TestHandedIn: what is handed in stays as it is.
func TestHandedIn(t *testing.T) {
	x, p := api.Vec{1, 2, 3}, api.Sym{4, 5, 6, 7, 8, 9}
	for range 2 {
		if surprise, spread, e := Look(x, p, 11, 6); surprise != 10 || spread != 10 || e != api.OK {
			t.Error(surprise, spread, e)
		}
	}
	if x != (api.Vec{1, 2, 3}) || p != (api.Sym{4, 5, 6, 7, 8, 9}) {
		t.Error(x, p)
	}
}
