package joseph

import (
	"math"
	"math/big"
	"testing"

	"aneroid/api"
)

const (
	point = int64(1) << 40
	most  = int64(1) << 58
)

// wrong are numbers that don't fit.
func wrong() []int64 {
	return []int64{most + 1, -most - 1, 2 * most, -2 * most, math.MaxInt64, math.MinInt64, math.MinInt64 + 1}
}

// edges are numbers that fit: the greatest, powers of 2 and small multiples of them, with their neighbours.
func edges() []int64 {
	l := []int64{0, most, -most, most - 1, 1 - most, most / 2, -most / 2, most/2 + 1}
	for _, n := range []int{0, 1, 2, 9, 19, 20, 21, 38, 39, 40, 41, 48, 49, 50, 57} {
		for _, k := range []int64{1, 3, 5} {
			p := min(k<<n, most-1)
			l = append(l, p, -p, p+1, -p-1, p-1, 1-p)
		}
	}
	return l
}

// draws are fixed rows of numbers.
type draws struct {
	x           uint64
	fit, unfit  []int64
	least, wide int
}

// newDraws draws numbers that have from 64-least-wide to 64-least bits, but for edges.
func newDraws(least, wide int) *draws {
	return &draws{x: 35, fit: edges(), unfit: wrong(), least: least, wide: wide}
}

func (d *draws) bits() uint64 {
	d.x = d.x*6364136223846793005 + 1442695040888963407
	return d.x >> 1
}

// one is now and then an edge, and seldom a number that doesn't fit.
func (d *draws) one() int64 {
	switch d.bits() >> 20 % 128 {
	case 0:
		return d.unfit[d.bits()>>20%uint64(len(d.unfit))]
	case 1, 2, 3, 4, 5, 6:
		return d.fit[d.bits()>>20%uint64(len(d.fit))]
	}
	return int64(d.bits()<<1) >> (d.least + int(d.bits()>>20%uint64(d.wide)))
}

func (d *draws) vec() api.Vec { return api.Vec{d.one(), d.one(), d.one()} }

func (d *draws) sym() api.Sym {
	return api.Sym{d.one(), d.one(), d.one(), d.one(), d.one(), d.one()}
}

func allFit(l ...int64) bool {
	for _, x := range l {
		if x < -most || x > most {
			return false
		}
	}
	return true
}

// nearest is a whole number of any size through 2^40, to the nearest, of two as near to the even one.
func nearest(x *big.Int) *big.Int {
	down := new(big.Int).Rsh(x, 40)
	rest := new(big.Int).Sub(x, new(big.Int).Lsh(down, 40))
	switch rest.Cmp(big.NewInt(point / 2)) {
	case 1:
		down.Add(down, big.NewInt(1))
	case 0:
		down.Add(down, big.NewInt(int64(down.Bit(0))))
	}
	return down
}

func times(a, b *big.Int) *big.Int { return new(big.Int).Mul(a, b) }

// goodOnes tells whether whole numbers of any size fit, all of them.
func goodOnes(l ...*big.Int) bool {
	for _, x := range l {
		if !x.IsInt64() || !allFit(x.Int64()) {
			return false
		}
	}
	return true
}

// wantedState is what State has to answer, in whole numbers of any size.
func wantedState(x, k api.Vec, surprise int64) (api.Vec, api.Errno) {
	if !allFit(x[:]...) || !allFit(k[:]...) || !allFit(surprise) {
		return api.Vec{}, api.ErrArg
	}
	var next api.Vec
	for i := range next {
		by := nearest(times(big.NewInt(k[i]), big.NewInt(surprise)))
		sum := new(big.Int).Add(big.NewInt(x[i]), by)
		if !goodOnes(by, sum) {
			return api.Vec{}, api.ErrFit
		}
		next[i] = sum.Int64()
	}
	return next, api.OK
}

// corners are row and column of each entry, as they stand in a matrix.
func corners() [6][2]int { return [6][2]int{{0, 0}, {0, 1}, {0, 2}, {1, 1}, {1, 2}, {2, 2}} }

// wantedDoubt is what Doubt has to answer, in whole numbers of any size.
func wantedDoubt(p api.Sym, k api.Vec, spread int64) (api.Sym, api.Errno) {
	if !allFit(p[:]...) || !allFit(k[:]...) || !allFit(spread) {
		return api.Sym{}, api.ErrArg
	}
	var next api.Sym
	for place, c := range corners() {
		// The entries 00, 01 and 02 stand first.
		ki, kj := big.NewInt(k[c[0]]), big.NewInt(k[c[1]])
		pi, pj := big.NewInt(p[c[0]]), big.NewInt(p[c[1]])
		t := nearest(new(big.Int).Add(times(ki, pj), times(kj, pi)))
		weight := nearest(times(ki, kj))
		u := nearest(times(weight, big.NewInt(spread)))
		less := new(big.Int).Sub(big.NewInt(p[place]), t)
		sum := new(big.Int).Add(less, u)
		if !goodOnes(t, weight, u, less, sum) {
			return api.Sym{}, api.ErrFit
		}
		next[place] = sum.Int64()
	}
	return next, api.OK
}

// holdsState tells an answer of State that isn't as wanted.
func holdsState(t *testing.T, x, k api.Vec, surprise int64) (api.Vec, api.Errno) {
	t.Helper()
	next, e := State(x, k, surprise)
	want, ee := wantedState(x, k, surprise)
	if next != want || e != ee {
		t.Error(x, k, surprise, next, e, "want", want, ee)
	}
	return next, e
}

// holdsDoubt tells an answer of Doubt that isn't as wanted.
func holdsDoubt(t *testing.T, p api.Sym, k api.Vec, spread int64) (api.Sym, api.Errno) {
	t.Helper()
	next, e := Doubt(p, k, spread)
	want, ee := wantedDoubt(p, k, spread)
	if next != want || e != ee {
		t.Error(p, k, spread, next, e, "want", want, ee)
	}
	return next, e
}

func TestExampleOfTheDocument(t *testing.T) {
	p, e := Doubt(api.Sym{point}, api.Vec{point / 2, 0, 0}, 2*point)
	if p != (api.Sym{point / 2}) || e != api.OK {
		t.Error(p, e)
	}
}

func TestState(t *testing.T) {
	for _, c := range []struct {
		x, k     api.Vec
		surprise int64
		next     api.Vec
		e        api.Errno
	}{
		{api.Vec{10, 20, 30}, api.Vec{point, 2 * point, -3 * point}, 4, api.Vec{14, 28, 18}, api.OK},
		{api.Vec{10, 20, 30}, api.Vec{point, 2 * point, -3 * point}, -4, api.Vec{6, 12, 42}, api.OK},
		{api.Vec{point, -point, 0}, api.Vec{point / 2, point / 4, 0}, 8 * point, api.Vec{5 * point, point, 0}, api.OK},
		// Halves go to the even one, below 0, too, ahead of the sum.
		{api.Vec{1, 1, 1}, api.Vec{point / 2, 3 * point / 2, 5 * point / 2}, 1, api.Vec{1, 3, 3}, api.OK},
		{api.Vec{1, 1, 1}, api.Vec{point / 2, 3 * point / 2, 5 * point / 2}, -1, api.Vec{1, -1, -1}, api.OK},
		{api.Vec{}, api.Vec{point/2 + 1, point/2 - 1, -point/2 - 1}, 1, api.Vec{1, 0, -1}, api.OK},
		// The last state that fits, and the next one, at each place and on both sides.
		{api.Vec{most - 1, 1 - most, most}, api.Vec{point, -point, -1}, 1, api.Vec{most, -most, most}, api.OK},
		{api.Vec{most, 0, 0}, api.Vec{point, 0, 0}, 1, api.Vec{}, api.ErrFit},
		{api.Vec{0, most, 0}, api.Vec{0, point, 0}, 1, api.Vec{}, api.ErrFit},
		{api.Vec{0, 0, -most}, api.Vec{0, 0, point}, -1, api.Vec{}, api.ErrFit},
		// A product that doesn't fit is none, even where the number would bring it back.
		{api.Vec{}, api.Vec{most, 0, 0}, point, api.Vec{most, 0, 0}, api.OK},
		{api.Vec{-most, 0, 0}, api.Vec{most, 0, 0}, point + 1, api.Vec{}, api.ErrFit},
		{api.Vec{0, -most, 0}, api.Vec{0, most, 0}, point + 1, api.Vec{}, api.ErrFit},
		{api.Vec{0, 0, most}, api.Vec{0, 0, -most}, point + 1, api.Vec{}, api.ErrFit},
		{api.Vec{}, api.Vec{most, most, most}, most, api.Vec{}, api.ErrFit},
		{api.Vec{}, api.Vec{-most, -most, -most}, -most, api.Vec{}, api.ErrFit},
	} {
		if next, e := holdsState(t, c.x, c.k, c.surprise); next != c.next || e != c.e {
			t.Error(c, next, e)
		}
	}
}

func TestDoubt(t *testing.T) {
	for _, c := range []struct {
		p      api.Sym
		k      api.Vec
		spread int64
		next   api.Sym
		e      api.Errno
	}{
		// k is 2, 3, 5 and the first row 7, 11, 13: t is 28, 43, 61, 66, 94, 130, and u the spread times 4, 6, 10, 9, 15, 25.
		{api.Sym{7, 11, 13, 17, 19, 23}, api.Vec{2 * point, 3 * point, 5 * point}, 1, api.Sym{-17, -26, -38, -40, -60, -82}, api.OK},
		{api.Sym{7, 11, 13, 17, 19, 23}, api.Vec{2 * point, 3 * point, 5 * point}, 0, api.Sym{-21, -32, -48, -49, -75, -107}, api.OK},
		{api.Sym{7, 11, 13, 17, 19, 23}, api.Vec{2 * point, 3 * point, 5 * point}, -2, api.Sym{-29, -44, -68, -67, -105, -157}, api.OK},
		{api.Sym{7, 11, 13, 17, 19, 23}, api.Vec{-2 * point, -3 * point, -5 * point}, 1, api.Sym{39, 60, 84, 92, 128, 178}, api.OK},
		// Two halves of a t are one together; one half alone goes to the even one.
		{api.Sym{1, 1, 1}, api.Vec{point / 2, point / 2, point / 2}, 0, api.Sym{0, 0, 0, -1, -1, -1}, api.OK},
		{api.Sym{1, 0, 0}, api.Vec{0, point / 2, 3 * point / 2}, 0, api.Sym{1, 0, -2}, api.OK},
		{api.Sym{-1, 0, 0}, api.Vec{0, point / 2, 3 * point / 2}, 0, api.Sym{-1, 0, 2}, api.OK},
		{api.Sym{1, 0, 0}, api.Vec{0, point/2 + 1, point/2 - 1}, 0, api.Sym{1, -1, 0}, api.OK},
		// The gains' product is rounded once, and again times the spread.
		{api.Sym{}, api.Vec{0, 1 << 20, 3 << 19}, point, api.Sym{3: 1, 4: 2, 5: 2}, api.OK},
		{api.Sym{}, api.Vec{1 << 19, 1 << 20, 0}, 1000 * point, api.Sym{3: 1000}, api.OK},
		{api.Sym{}, api.Vec{point, 0, 0}, 1, api.Sym{1}, api.OK},
		{api.Sym{}, api.Vec{0, point, point / 2}, 1, api.Sym{3: 1}, api.OK},
		{api.Sym{}, api.Vec{0, point, point / 2}, 3, api.Sym{3: 3, 4: 2, 5: 1}, api.OK},
		{api.Sym{}, api.Vec{0, point, -point / 2}, 3, api.Sym{3: 3, 4: -2, 5: 1}, api.OK},
		// A best gain takes its product with the first row.
		{api.Sym{4 * point, 2 * point, -point, 8 * point, 3 * point, 5 * point}, api.Vec{point / 2, point / 4, -point / 8}, 8 * point,
			api.Sym{2 * point, point, -point / 2, 15 * point / 2, 13 * point / 4, 39 * point / 8}, api.OK},
	} {
		if next, e := holdsDoubt(t, c.p, c.k, c.spread); next != c.next || e != c.e {
			t.Error(c, next, e)
		}
	}
}

// alone is a way to one entry's t alone: it is so many times a number of the gain times an entry of the first row, and else nothing moves.
type alone struct {
	entry, gain, row int
	often            int64
}

func allAlone() []alone {
	return []alone{{0, 0, 0, 2}, {1, 1, 0, 1}, {2, 2, 0, 1}, {3, 1, 1, 2}, {4, 1, 2, 1}, {4, 2, 1, 1}, {5, 2, 2, 2}}
}

// TestDoubtThatDoesNotFit: at each entry each of the five steps that may fail does, alone, and its neighbour doesn't.
func TestDoubtThatDoesNotFit(t *testing.T) {
	for _, a := range allAlone() {
		for _, sign := range []int64{1, -1} {
			holdsT(t, a, sign)
			holdsLess(t, a, sign)
		}
	}
	for i, entry := range []int{0, 3, 5} {
		for _, sign := range []int64{1, -1} {
			holdsU(t, i, entry, sign)
			holdsSum(t, i, entry, sign)
		}
	}
}

// is tells an error of Doubt that isn't the one that is named.
func is(t *testing.T, want api.Errno, p api.Sym, k api.Vec, spread int64) {
	t.Helper()
	if _, e := holdsDoubt(t, p, k, spread); e != want {
		t.Error(p, k, spread, e, "want", want)
	}
}

// holdsT: a t that doesn't fit is none, even where the entry less it would be one.
func holdsT(t *testing.T, a alone, sign int64) {
	t.Helper()
	var p api.Sym
	var k api.Vec
	k[a.gain] = 1 << 48 / a.often
	p[a.row] = sign << 50
	if a.entry > 2 {
		p[a.entry] = sign * most
	}
	is(t, api.OK, p, k, 0)
	p[a.row] += sign
	is(t, api.ErrFit, p, k, 0)
}

// holdsLess: an entry less its t that doesn't fit is none, even where u would bring it back.
func holdsLess(t *testing.T, a alone, sign int64) {
	t.Helper()
	var p api.Sym
	var k api.Vec
	if a.entry == 0 {
		// By a gain of -1/2 the entry 00 is its own t, below 0: it is doubled.
		k[0] = -point / 2
		p[0] = sign * most / 2
		is(t, api.OK, p, k, 0)
		k[0] -= 1 << 20
		is(t, api.ErrFit, p, k, 0)
		is(t, api.ErrFit, p, k, -sign*2*point)
		return
	}
	// By a gain of 1/2 the t of another entry, twice this one's half, fits, too.
	k[a.gain] = point / 2
	p[a.row] = 2 * sign / a.often
	p[a.entry] = sign - sign*most
	is(t, api.OK, p, k, 0)
	p[a.entry] -= sign
	is(t, api.ErrFit, p, k, 0)
	is(t, api.ErrFit, p, k, sign*40)
}

// holdsU: a product of u that doesn't fit is none, even where the other one or the entry would bring it back.
func holdsU(t *testing.T, i, entry int, sign int64) {
	t.Helper()
	var p api.Sym
	var k api.Vec
	k[i] = sign << 49
	is(t, api.OK, p, k, 1)
	k[i] += sign
	for _, spread := range []int64{0, 1, -1, point} {
		is(t, api.ErrFit, p, k, spread)
	}
	k[i] = sign << 41
	is(t, api.OK, p, k, sign*most/4)
	is(t, api.ErrFit, p, k, sign*(most/4+1))
	if entry > 0 {
		p[entry] = -sign * most
		is(t, api.ErrFit, p, k, sign*(most/4+1))
	}
}

// holdsSum: the last entry that fits is one, and the next one isn't.
func holdsSum(t *testing.T, i, entry int, sign int64) {
	t.Helper()
	var p api.Sym
	var k api.Vec
	if entry == 0 {
		// By a gain of 1 the entry 00 goes against itself: what comes is the spread less it.
		k[0] = point
		p[0] = sign
		is(t, api.OK, p, k, most-max(0, -sign))
		is(t, api.OK, p, k, max(0, sign)-most)
		p[0] = -9
		is(t, api.ErrFit, p, k, most-8)
		p[0] = 9
		is(t, api.ErrFit, p, k, 8-most)
		return
	}
	k[i] = point
	p[entry] = sign * (most - 9)
	is(t, api.OK, p, k, sign*9)
	is(t, api.ErrFit, p, k, sign*10)
}

// TestDoubtOffTheDiagonal: there, too, the last entry that fits is one, and the next one isn't, while all others fit.
func TestDoubtOffTheDiagonal(t *testing.T) {
	for _, sign := range []int64{1, -1} {
		for _, row := range []int{1, 2} {
			var p api.Sym
			// By these gains the entry becomes half as much again, and a quarter of the spread less.
			k := api.Vec{-point / 2}
			k[row] = point / 2
			p[row] = sign * most / 2
			is(t, api.OK, p, k, -sign*most)
			p[row] += 2 * sign
			is(t, api.OK, p, k, -sign*(most-12))
			is(t, api.ErrFit, p, k, -sign*(most-8))
		}
		last := api.Sym{4: sign * (most - 9)}
		is(t, api.OK, last, api.Vec{0, point, point}, sign*9)
		is(t, api.ErrFit, last, api.Vec{0, point, point}, sign*10)
	}
}

// TestWrong: one number that doesn't fit, wherever it stands, is ErrArg, ahead of all that doesn't fit of what comes.
func TestWrong(t *testing.T) {
	full := api.Vec{most, most, most}
	for _, bad := range wrong() {
		for i := range 3 {
			one, all := api.Vec{}, full
			one[i], all[i] = bad, bad
			wrongState(t, one, api.Vec{}, 0)
			wrongState(t, api.Vec{}, one, 0)
			wrongState(t, all, full, most)
			wrongState(t, full, all, most)
			wrongDoubt(t, api.Sym{}, one, 0)
			wrongDoubt(t, api.Sym{most, most, most, most, most, most}, all, most)
		}
		wrongState(t, api.Vec{}, api.Vec{}, bad)
		wrongState(t, full, full, bad)
		wrongState(t, api.Vec{bad, bad, bad}, api.Vec{bad, bad, bad}, bad)
		wrongDoubt(t, api.Sym{}, api.Vec{}, bad)
		wrongDoubt(t, api.Sym{most, most, most, most, most, most}, full, bad)
		for place := range 6 {
			one, all := api.Sym{}, api.Sym{most, most, most, most, most, most}
			one[place], all[place] = bad, bad
			wrongDoubt(t, one, api.Vec{}, 0)
			wrongDoubt(t, all, full, most)
		}
	}
}

func wrongState(t *testing.T, x, k api.Vec, surprise int64) {
	t.Helper()
	if next, e := State(x, k, surprise); next != (api.Vec{}) || e != api.ErrArg {
		t.Error(x, k, surprise, next, e)
	}
}

func wrongDoubt(t *testing.T, p api.Sym, k api.Vec, spread int64) {
	t.Helper()
	if next, e := Doubt(p, k, spread); next != (api.Sym{}) || e != api.ErrArg {
		t.Error(p, k, spread, next, e)
	}
}

// TestNothing: by a gain of zeros, or without a surprise, all stays.
func TestNothing(t *testing.T) {
	for _, a := range edges() {
		for _, b := range edges() {
			x, p := api.Vec{a, b, -a}, api.Sym{a, b, -a, -b, b, a}
			if next, e := State(x, api.Vec{}, b); next != x || e != api.OK {
				t.Error(x, b, next, e)
			}
			if next, e := State(x, api.Vec{b, a, -b}, 0); next != x || e != api.OK {
				t.Error(x, next, e)
			}
			if next, e := Doubt(p, api.Vec{}, b); next != p || e != api.OK {
				t.Error(p, b, next, e)
			}
		}
	}
}

// TestEdges: a single number of the gain, and an entry of the first row, at all edges.
func TestEdges(t *testing.T) {
	for _, a := range edges() {
		for _, b := range edges() {
			holdsState(t, api.Vec{b, a, -b}, api.Vec{a, point, -a}, b)
			for i := range 3 {
				k, p := api.Vec{1, 2, 3}, api.Sym{5, 6, 7, b, -b, a}
				k[i], p[i] = a, b
				holdsDoubt(t, p, k, 3)
				holdsDoubt(t, api.Sym{}, k, b)
			}
		}
	}
}

func TestDrawn(t *testing.T) {
	var states, doubts [api.ErrFull + 1]int
	for _, d := range []*draws{newDraws(6, 50), newDraws(14, 12), newDraws(16, 40)} {
		for range 20000 {
			_, e := holdsState(t, d.vec(), d.vec(), d.one())
			states[e]++
			_, e = holdsDoubt(t, d.sym(), d.vec(), d.one())
			doubts[e]++
		}
	}
	for _, got := range [][api.ErrFull + 1]int{states, doubts} {
		if got[api.OK] < 20000 || got[api.ErrArg] < 2000 || got[api.ErrFit] < 2000 {
			t.Error("too few of a kind", states, doubts)
		}
	}
}

// TestHandedIn: what is handed in stays as it is.
func TestHandedIn(t *testing.T) {
	p, x, k := api.Sym{4, 5, 6, 7, 8, 9}, api.Vec{1, 2, 3}, api.Vec{point, 0, 0}
	for range 2 {
		if next, e := State(x, k, 7); next != (api.Vec{8, 2, 3}) || e != api.OK {
			t.Error(next, e)
		}
		if next, e := Doubt(p, k, 4); next != (api.Sym{0, 0, 0, 7, 8, 9}) || e != api.OK {
			t.Error(next, e)
		}
	}
	if p != (api.Sym{4, 5, 6, 7, 8, 9}) || x != (api.Vec{1, 2, 3}) || k != (api.Vec{point, 0, 0}) {
		t.Error(p, x, k)
	}
}
