package spread

import (
	"math"
	"math/big"
	"testing"

	"aneroid/api"
)

const (
	point = int64(1) << 40
	most  = int64(1) << 58
)

// entries are the row and the column of each entry, as the document lists them.
var entries = [6][2]int{{0, 0}, {0, 1}, {0, 2}, {1, 1}, {1, 2}, {2, 2}}

// wrong are numbers that don't fit.
func wrong() []int64 {
	return []int64{most + 1, -most - 1, 2 * most, -2 * most, math.MaxInt64, math.MinInt64, math.MinInt64 + 1}
}

// edges fit: the greatest, and halves of the powers that are rounded by, with their neighbours.
func edges() []int64 {
	l := []int64{0, most, -most, most - 1, 1 - most}
	for _, n := range []int{0, 5, 6, 7, 13, 14, 15, 19, 20, 21, 22, 29, 30, 40, 57} {
		for _, k := range []int64{1, 3} {
			p := min(k<<n, most)
			l = append(l, p, -p, min(p+1, most), max(-p-1, -most), p-1, 1-p)
		}
	}
	return l
}

// drawn is a fixed row of numbers in all sizes that fit, edges among them.
func drawn() func() int64 {
	l := edges()
	x := uint64(13)
	next := func() uint64 {
		x = x*6364136223846793005 + 1442695040888963407
		return x >> 1
	}
	return func() int64 {
		if next()>>20%3 == 0 {
			return l[next()>>20%uint64(len(l))]
		}
		return int64(next()<<1) >> (6 + next()>>20%56)
	}
}

func power(n uint) *big.Int { return new(big.Int).Lsh(big.NewInt(1), n) }

func within(x *big.Int) bool { return x.CmpAbs(power(58)) <= 0 }

func allFit(l ...int64) bool {
	for _, x := range l {
		if !within(big.NewInt(x)) {
			return false
		}
	}
	return true
}

// through is x through 2^n, rounded to even, in whole numbers of any size.
func through(x *big.Int, n uint) *big.Int {
	q, rest := new(big.Int).DivMod(x, power(n), new(big.Int))
	side := rest.Cmp(power(n - 1))
	if side > 0 || side == 0 && q.Bit(0) == 1 {
		q.Add(q, big.NewInt(1))
	}
	return q
}

// square is three rows of whole numbers of any size.
type square [3][3]*big.Int

func (a square) times(b square) square {
	var c square
	for i := range c {
		for j := range c[i] {
			c[i][j] = new(big.Int)
			for k := range b {
				c[i][j].Add(c[i][j], new(big.Int).Mul(a[i][k], b[k][j]))
			}
		}
	}
	return c
}

func (a square) turned() square {
	var c square
	for i := range a {
		for j := range a {
			c[j][i] = a[i][j]
		}
	}
	return c
}

// stepped is the document's F, times 2^15.
func stepped() square {
	var f square
	for i, row := range [3][3]int64{{32768, 256, -1}, {0, 32768, -256}, {0, 0, 32768}} {
		for j, x := range row {
			f[i][j] = big.NewInt(x)
		}
	}
	return f
}

// product is what Raw has to answer of a doubt that fits, in whole numbers of any size.
func product(p api.Sym) [6]*big.Int {
	var doubt square
	for place, at := range entries {
		doubt[at[0]][at[1]] = big.NewInt(p[place])
		doubt[at[1]][at[0]] = doubt[at[0]][at[1]]
	}
	whole := stepped().times(doubt).times(stepped().turned())
	var l [6]*big.Int
	for place, at := range entries {
		l[place] = whole[at[0]][at[1]]
	}
	return l
}

// wanted is what On has to answer, in whole numbers of any size.
func wanted(p api.Sym, add api.Vec) (api.Sym, api.Errno) {
	if !allFit(p[:]...) || !allFit(add[:]...) {
		return api.Sym{}, api.ErrArg
	}
	diagonal := api.Sym{0: add[0], 3: add[1], 5: add[2]}
	var want api.Sym
	for place, x := range product(p) {
		x = through(x, 30)
		sum := new(big.Int).Add(x, big.NewInt(diagonal[place]))
		if !within(x) || !within(sum) {
			return api.Sym{}, api.ErrFit
		}
		want[place] = sum.Int64()
	}
	return want, api.OK
}

// holdsOn tells an answer of On that isn't as wanted.
func holdsOn(t *testing.T, p api.Sym, add api.Vec) api.Errno {
	t.Helper()
	got, e := On(p, add)
	want, ee := wanted(p, add)
	if got != want || e != ee {
		t.Error(p, add, got, e, "want", want, ee)
	}
	return e
}

// number is a wide number as one of any size.
func number(a api.Wide) *big.Int {
	x := new(big.Int).Lsh(big.NewInt(a.Hi), 64)
	return x.Add(x, new(big.Int).SetUint64(a.Lo))
}

// holdsRaw tells an answer of Raw, of a doubt that fits, that isn't the product.
func holdsRaw(t *testing.T, p api.Sym) {
	t.Helper()
	raw, e := Raw(p)
	if e != api.OK {
		t.Error(p, e)
	}
	for place, want := range product(p) {
		if number(raw[place]).Cmp(want) != 0 {
			t.Error(p, place, raw[place], "want", want)
		}
	}
}

func turnedAway(p api.Sym) api.Sym {
	for place := range p {
		p[place] = -p[place]
	}
	return p
}

func TestExampleOfTheDocument(t *testing.T) {
	p, e := On(api.Sym{0: point, 3: point, 5: point}, api.Vec{})
	if p[5] != point || p[4] != -point/128 || e != api.OK {
		t.Error(p, e)
	}
}

// TestRawOfOneEntry: what each entry alone puts to each of the product, times 2^30, as it is.
func TestRawOfOneEntry(t *testing.T) {
	for place, want := range [6][6]int64{
		{1 << 30, 0, 0, 0, 0, 0},
		{1 << 24, 1 << 30, 0, 0, 0, 0},
		{-1 << 16, -1 << 23, 1 << 30, 0, 0, 0},
		{1 << 16, 1 << 23, 0, 1 << 30, 0, 0},
		{-1 << 9, -1<<15 - 1<<16, 1 << 23, -1 << 24, 1 << 30, 0},
		{1, 1 << 8, -1 << 15, 1 << 16, -1 << 23, 1 << 30},
	} {
		for _, x := range []int64{0, 1, -1, 3, 1 << 32, -1 << 32} {
			var p api.Sym
			p[place] = x
			raw, e := Raw(p)
			if e != api.OK {
				t.Error(p, e)
			}
			for k, n := range want {
				if number(raw[k]).Cmp(new(big.Int).Mul(big.NewInt(x), big.NewInt(n))) != 0 {
					t.Error(p, k, raw[k], n)
				}
			}
		}
	}
}

// TestRaw: nothing is rounded or cut off, up to the greatest doubt that fits.
func TestRaw(t *testing.T) {
	holdsRaw(t, api.Sym{})
	for _, p := range []api.Sym{
		{most, most, most, most, most, most},
		{most, most, -most, most, -most, most},
		{-most, most, -most, most, -most, most},
		{0, 0, 0, 0, most, -most},
	} {
		holdsRaw(t, p)
		holdsRaw(t, turnedAway(p))
	}
	next := drawn()
	for range 10000 {
		holdsRaw(t, api.Sym{next(), next(), next(), next(), next(), next()})
	}
}

// TestOnRoundsOnce: what entries put to one of the product is rounded to even all together.
func TestOnRoundsOnce(t *testing.T) {
	for _, c := range []struct{ p, want api.Sym }{
		{api.Sym{1: 32}, api.Sym{1: 32}},
		{api.Sym{1: 96}, api.Sym{0: 2, 1: 96}},
		{api.Sym{1: 33}, api.Sym{0: 1, 1: 33}},
		{api.Sym{2: 64}, api.Sym{2: 64}},
		{api.Sym{2: 192}, api.Sym{1: -2, 2: 192}},
		{api.Sym{3: 1 << 13}, api.Sym{1: 64, 3: 1 << 13}},
		{api.Sym{3: 3 << 13}, api.Sym{0: 2, 1: 192, 3: 3 << 13}},
		{api.Sym{3: 1<<13 + 1}, api.Sym{0: 1, 1: 64, 3: 1<<13 + 1}},
		{api.Sym{3: 1<<13 - 1}, api.Sym{1: 64, 3: 1<<13 - 1}},
		{api.Sym{3: 1 << 13, 5: 1}, api.Sym{0: 1, 1: 64, 3: 1 << 13, 5: 1}},
		{api.Sym{3: 1 << 13, 5: -1}, api.Sym{1: 64, 3: 1 << 13, 5: -1}},
		{api.Sym{0: 1, 3: 1 << 13}, api.Sym{0: 2, 1: 64, 3: 1 << 13}},
		{api.Sym{1: 16, 3: 1 << 12}, api.Sym{1: 48, 3: 1 << 12}},
		{api.Sym{1: 16, 3: 1<<12 + 1}, api.Sym{0: 1, 1: 48, 3: 1<<12 + 1}},
		{api.Sym{4: 32}, api.Sym{4: 32}},
		{api.Sym{4: 96}, api.Sym{2: 1, 3: -2, 4: 96}},
		{api.Sym{5: 64}, api.Sym{5: 64}},
		{api.Sym{5: 192}, api.Sym{4: -2, 5: 192}},
		{api.Sym{4: 1, 5: 64}, api.Sym{4: 0, 5: 64}},
		{api.Sym{4: 1, 5: 65}, api.Sym{4: 0, 5: 65}},
		{api.Sym{4: 1, 5: 63}, api.Sym{4: 1, 5: 63}},
	} {
		if got, e := On(c.p, api.Vec{}); got != c.want || e != api.OK {
			t.Error(c.p, got, e, "want", c.want)
		}
		if got, e := On(turnedAway(c.p), api.Vec{}); got != turnedAway(c.want) || e != api.OK {
			t.Error(turnedAway(c.p), got, e, "want", turnedAway(c.want))
		}
	}
}

// TestOnAddsBehind: an addition is put to the diagonal once it is rounded: it makes no half go another way.
func TestOnAddsBehind(t *testing.T) {
	for _, c := range []struct {
		p    api.Sym
		add  api.Vec
		want api.Sym
	}{
		{api.Sym{}, api.Vec{1, 20, -300}, api.Sym{1, 0, 0, 20, 0, -300}},
		{api.Sym{1: 32}, api.Vec{1, 0, 0}, api.Sym{0: 1, 1: 32}},
		{api.Sym{1: 32}, api.Vec{-1, 0, 0}, api.Sym{0: -1, 1: 32}},
		{api.Sym{1: 96}, api.Vec{1, 0, 0}, api.Sym{0: 3, 1: 96}},
		{api.Sym{4: 32}, api.Vec{0, 1, 0}, api.Sym{3: 1, 4: 32}},
		{api.Sym{4: 96}, api.Vec{0, 1, 0}, api.Sym{2: 1, 3: -1, 4: 96}},
		{api.Sym{5: 64}, api.Vec{0, 0, 64}, api.Sym{5: 128}},
		{api.Sym{}, api.Vec{0, 0, 192}, api.Sym{5: 192}},
	} {
		if got, e := On(c.p, c.add); got != c.want || e != api.OK {
			t.Error(c.p, c.add, got, e, "want", c.want)
		}
	}
}

// TestWrong: one number that doesn't fit, wherever it stands, is ErrArg, ahead of an entry that doesn't.
func TestWrong(t *testing.T) {
	for _, bad := range wrong() {
		for _, other := range []int64{0, 1, point, most, -most, bad} {
			for place := range entries {
				p := api.Sym{other, other, other, other, other, other}
				p[place] = bad
				if raw, e := Raw(p); raw != ([6]api.Wide{}) || e != api.ErrArg {
					t.Error(p, raw, e)
				}
				for _, add := range []api.Vec{{}, {-1, 0, 1}, {most, most, most}, {bad, bad, bad}} {
					if got, e := On(p, add); got != (api.Sym{}) || e != api.ErrArg {
						t.Error(p, add, got, e)
					}
				}
			}
			if allFit(other) {
				wrongAddition(t, api.Sym{other, other, other, other, other, other}, bad)
			}
		}
	}
}

// wrongAddition holds On of a doubt that fits, and bad at each place of an addition.
func wrongAddition(t *testing.T, p api.Sym, bad int64) {
	t.Helper()
	for i := range 3 {
		for _, other := range []int64{0, most, -most} {
			add := api.Vec{other, other, other}
			add[i] = bad
			if got, e := On(p, add); got != (api.Sym{}) || e != api.ErrArg {
				t.Error(p, add, got, e)
			}
		}
	}
}

// TestOnAtTheEdge: an entry of the product, and what comes of it, fit up to the last one, and are ErrFit beyond it.
func TestOnAtTheEdge(t *testing.T) {
	for _, c := range []struct {
		p   api.Sym
		add api.Vec
		e   api.Errno
	}{
		{api.Sym{0: most}, api.Vec{}, api.OK},
		{api.Sym{0: most, 1: 32}, api.Vec{}, api.OK},
		{api.Sym{0: most, 1: 33}, api.Vec{}, api.ErrFit},
		{api.Sym{0: most, 1: 33}, api.Vec{-1, 0, 0}, api.ErrFit},
		{api.Sym{0: most - 1, 1: 33}, api.Vec{}, api.OK},
		{api.Sym{0: most - 1, 1: 33}, api.Vec{1, 0, 0}, api.ErrFit},
		{api.Sym{0: most - 1, 1: 33}, api.Vec{-1, 0, 0}, api.OK},
		{api.Sym{0: most - 1, 1: 32}, api.Vec{}, api.OK},
		{api.Sym{0: most - 1, 1: 32}, api.Vec{1, 0, 0}, api.ErrFit},
		{api.Sym{0: most, 3: 1 << 13}, api.Vec{}, api.OK},
		{api.Sym{0: most, 3: 1 << 13, 5: 1}, api.Vec{}, api.ErrFit},
		{api.Sym{0: most}, api.Vec{1, 0, 0}, api.ErrFit},
		{api.Sym{0: most}, api.Vec{-most, 0, 0}, api.OK},
		{api.Sym{0: most}, api.Vec{most, 0, 0}, api.ErrFit},
		{api.Sym{1: most}, api.Vec{}, api.OK},
		{api.Sym{1: most, 3: 64}, api.Vec{}, api.OK},
		{api.Sym{1: most, 3: 65}, api.Vec{}, api.ErrFit},
		{api.Sym{1: most - 1, 3: 65}, api.Vec{}, api.OK},
		{api.Sym{2: most}, api.Vec{}, api.OK},
		{api.Sym{2: most, 4: 64}, api.Vec{}, api.OK},
		{api.Sym{2: most, 4: 65}, api.Vec{}, api.ErrFit},
		{api.Sym{2: most - 1, 4: 65}, api.Vec{}, api.OK},
		{api.Sym{3: most}, api.Vec{}, api.OK},
		{api.Sym{3: most, 4: -32}, api.Vec{}, api.OK},
		{api.Sym{3: most, 4: -33}, api.Vec{}, api.ErrFit},
		{api.Sym{3: most, 4: -33}, api.Vec{0, -1, 0}, api.ErrFit},
		{api.Sym{3: most - 1, 4: -33}, api.Vec{}, api.OK},
		{api.Sym{3: most - 1, 4: -33}, api.Vec{0, 1, 0}, api.ErrFit},
		{api.Sym{3: most}, api.Vec{0, 1, 0}, api.ErrFit},
		{api.Sym{3: most}, api.Vec{0, -most, 0}, api.OK},
		{api.Sym{4: most}, api.Vec{}, api.OK},
		{api.Sym{4: most, 5: -64}, api.Vec{}, api.OK},
		{api.Sym{4: most, 5: -65}, api.Vec{}, api.ErrFit},
		{api.Sym{4: most - 1, 5: -65}, api.Vec{}, api.OK},
		{api.Sym{5: most}, api.Vec{}, api.OK},
		{api.Sym{5: most}, api.Vec{0, 0, 1}, api.ErrFit},
		{api.Sym{5: most}, api.Vec{0, 0, -most}, api.OK},
		{api.Sym{5: most - 1}, api.Vec{0, 0, 1}, api.OK},
		{api.Sym{}, api.Vec{most, -most, most}, api.OK},
		{api.Sym{most, most, -most, most, -most, most}, api.Vec{-most, -most, -most}, api.ErrFit},
	} {
		if e := holdsOn(t, c.p, c.add); e != c.e {
			t.Error(c.p, c.add, e, "want", c.e)
		}
		add := api.Vec{-c.add[0], -c.add[1], -c.add[2]}
		if e := holdsOn(t, turnedAway(c.p), add); e != c.e {
			t.Error(turnedAway(c.p), add, e, "want", c.e)
		}
	}
}

func TestOn(t *testing.T) {
	next := drawn()
	for range 10000 {
		p := api.Sym{next(), next(), next(), next(), next(), next()}
		holdsOn(t, p, api.Vec{next(), next(), next()})
		for place := range p {
			// Of lesser entries more sums fit.
			p[place] >>= 2
		}
		holdsOn(t, p, api.Vec{next() >> 2, next() >> 2, next() >> 2})
	}
	for _, n := range edges() {
		for _, m := range edges() {
			holdsOn(t, api.Sym{0: 5, 1: n, 3: m}, api.Vec{})
			holdsOn(t, api.Sym{0: -5, 2: n, 4: m}, api.Vec{1, 1, 1})
			holdsOn(t, api.Sym{3: n, 5: m}, api.Vec{-1, 1, -1})
			holdsOn(t, api.Sym{4: n, 5: m}, api.Vec{})
		}
	}
}

// TestNoLess: of a diagonal from 0 on no diagonal entry becomes less, and an addition from 0 on makes it no less.
func TestNoLess(t *testing.T) {
	next := drawn()
	size := func() int64 { return max(next(), 0) }
	for range 20000 {
		d := api.Vec{size(), size(), size()}
		p := api.Sym{0: d[0], 3: d[1], 5: d[2]}
		noLess(t, p, api.Vec{})
		noLess(t, p, api.Vec{size(), size(), size()})
	}
	for _, n := range edges() {
		for _, m := range edges() {
			if n >= 0 && m >= 0 {
				noLess(t, api.Sym{0: n, 3: m}, api.Vec{})
				noLess(t, api.Sym{0: n, 5: m}, api.Vec{})
				noLess(t, api.Sym{3: n, 5: m}, api.Vec{})
			}
		}
	}
}

// noLess holds the diagonal of what a tick makes of p against p's, if all of it fits.
func noLess(t *testing.T, p api.Sym, add api.Vec) {
	t.Helper()
	got, e := On(p, add)
	if e == api.OK && (got[0] < p[0] || got[3] < p[3] || got[5] < p[5]) {
		t.Error(p, add, got)
	}
	if _, want := wanted(p, add); e != want {
		t.Error(p, add, e, want)
	}
}

// TestHandedIn: what is handed in stays as it is, and an answer is one of its own.
func TestHandedIn(t *testing.T) {
	p, add := api.Sym{1, 2, 3, 4, 5, 6}, api.Vec{7, 8, 9}
	got, _ := On(p, add)
	raw, _ := Raw(p)
	kept, first := got, raw
	got[0], raw[0] = 99, api.Wide{Hi: 99}
	if p != (api.Sym{1, 2, 3, 4, 5, 6}) || add != (api.Vec{7, 8, 9}) {
		t.Error(p, add)
	}
	if again, _ := On(p, add); again != kept {
		t.Error(again, kept)
	}
	if again, _ := Raw(p); again != first {
		t.Error(again, first)
	}
}
