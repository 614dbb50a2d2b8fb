package gain

import (
	"math"
	"math/big"
	"testing"

	"aneroid/api"
)

const (
	point = int64(1) << 40
	most  = int64(1) << 58
)

// wrong are numbers that don't fit.
func wrong() []int64 {
	return []int64{most + 1, -most - 1, 2 * most, -2 * most, math.MaxInt64, math.MinInt64, math.MinInt64 + 1}
}

// edges are numbers that fit: the greatest, powers of 2 and small multiples of them, with their neighbours.
func edges() []int64 {
	l := []int64{0, most, -most, most - 1, 1 - most, most / 2, -most / 2, most/2 + 1}
	for _, n := range []int{0, 1, 2, 9, 17, 18, 19, 20, 21, 39, 40, 41, 49, 57} {
		for _, k := range []int64{1, 3, 5} {
			p := min(k<<n, most-1)
			l = append(l, p, -p, p+1, -p-1, p-1, 1-p)
		}
	}
	return l
}

// drawn is a fixed row of numbers in all sizes, edges and numbers that don't fit among them.
func drawn() func() int64 {
	fit, unfit := edges(), wrong()
	x := uint64(32)
	next := func() uint64 {
		x = x*6364136223846793005 + 1442695040888963407
		return x >> 1
	}
	return func() int64 {
		switch next() >> 20 % 64 {
		case 0:
			return unfit[next()>>20%uint64(len(unfit))]
		case 1, 2, 3, 4, 5, 6, 7, 8, 9, 10, 11, 12, 13, 14, 15:
			return fit[next()>>20%uint64(len(fit))]
		}
		return int64(next()<<1) >> (6 + next()>>20%56)
	}
}

func allFit(l ...int64) bool {
	for _, x := range l {
		if x < -most || x > most {
			return false
		}
	}
	return true
}

// wantedShare is a number through the spread, in whole numbers of any size: times 2^40, and to the nearest, of two as near to the even one.
func wantedShare(x, spread int64) *big.Int {
	over := new(big.Int).Lsh(big.NewInt(x), 40)
	down, rest := new(big.Int).DivMod(over, big.NewInt(spread), new(big.Int))
	switch rest.Lsh(rest, 1).Cmp(big.NewInt(spread)) {
	case 1:
		down.Add(down, big.NewInt(1))
	case 0:
		down.Add(down, big.NewInt(int64(down.Bit(0))))
	}
	return down
}

// wantedBest is what Best has to answer.
func wantedBest(p api.Sym, spread int64) (api.Vec, api.Errno) {
	if !allFit(p[:]...) || !allFit(spread) || spread < 1 {
		return api.Vec{}, api.ErrArg
	}
	var k api.Vec
	for i := range k {
		share := wantedShare(p[i], spread)
		if !share.IsInt64() || !allFit(share.Int64()) {
			return api.Vec{}, api.ErrFit
		}
		k[i] = share.Int64()
	}
	return k, api.OK
}

// wantedOf is what Of has to answer.
func wantedOf(p api.Sym, spread int64, short bool, table api.Vec) (api.Vec, api.Errno) {
	if !short {
		return wantedBest(p, spread)
	}
	if !allFit(table[:]...) {
		return api.Vec{}, api.ErrArg
	}
	return table, api.OK
}

// holdsBest tells an answer of Best that isn't as wanted, and one that Of doesn't give.
func holdsBest(t *testing.T, p api.Sym, spread int64) (api.Vec, api.Errno) {
	t.Helper()
	k, e := Best(p, spread)
	want, ee := wantedBest(p, spread)
	if k != want || e != ee {
		t.Error(p, spread, k, e, "want", want, ee)
	}
	holdsOf(t, p, spread, false, api.Vec{7, 8, 9})
	return k, e
}

// holdsOf tells an answer of Of that isn't as wanted.
func holdsOf(t *testing.T, p api.Sym, spread int64, short bool, table api.Vec) api.Errno {
	t.Helper()
	k, e := Of(p, spread, short, table)
	want, ee := wantedOf(p, spread, short, table)
	if k != want || e != ee {
		t.Error(p, spread, short, table, k, e, "want", want, ee)
	}
	return e
}

func TestExampleOfTheDocument(t *testing.T) {
	k, e := Best(api.Sym{point, point}, 2*point)
	if k != (api.Vec{point / 2, point / 2, 0}) || e != api.OK {
		t.Error(k, e)
	}
}

func TestBest(t *testing.T) {
	for _, c := range []struct {
		p      api.Sym
		spread int64
		k      api.Vec
		e      api.Errno
	}{
		{api.Sym{6, 8, -10, 100, 200, 300}, 2 * point, api.Vec{3, 4, -5}, api.OK},
		{api.Sym{point, 2 * point, 3 * point, most, -most, most}, point, api.Vec{point, 2 * point, 3 * point}, api.OK},
		{api.Sym{}, 1, api.Vec{}, api.OK},
		{api.Sym{}, most, api.Vec{}, api.OK},
		{api.Sym{}, 0, api.Vec{}, api.ErrArg},
		{api.Sym{}, -1, api.Vec{}, api.ErrArg},
		{api.Sym{6, 8, 10}, -2 * point, api.Vec{}, api.ErrArg},
		{api.Sym{most, most, most}, 0, api.Vec{}, api.ErrArg},
		{api.Sym{most, most, most}, -most, api.Vec{}, api.ErrArg},
		// Halves go to the even one, below 0, too.
		{api.Sym{1, 3, 5}, 2 * point, api.Vec{0, 2, 2}, api.OK},
		{api.Sym{-1, -3, -5}, 2 * point, api.Vec{0, -2, -2}, api.OK},
		{api.Sym{7, -7, 9}, 2 * point, api.Vec{4, -4, 4}, api.OK},
		{api.Sym{1, 2, -2}, 3 * point, api.Vec{0, 1, -1}, api.OK},
		{api.Sym{1, 1, 1}, 2*point - 1, api.Vec{1, 1, 1}, api.OK},
		{api.Sym{1, 1, 1}, 2*point + 1, api.Vec{}, api.OK},
		{api.Sym{1, 1, 1}, 3, api.Vec{point / 3, point / 3, point / 3}, api.OK},
		{api.Sym{-1, 1, -1}, 3, api.Vec{-(point / 3), point / 3, -(point / 3)}, api.OK},
		// An entry 00 below 0, or above the spread, is as good as another.
		{api.Sym{-point, 0, 0}, point, api.Vec{-point, 0, 0}, api.OK},
		{api.Sym{5 * point, 0, 0}, point, api.Vec{5 * point, 0, 0}, api.OK},
		{api.Sym{most, -most, most}, point, api.Vec{most, -most, most}, api.OK},
		{api.Sym{most, -most, most}, most, api.Vec{point, -point, point}, api.OK},
		{api.Sym{most, 0, 0}, point - 1, api.Vec{}, api.ErrFit},
		{api.Sym{0, most, 0}, point - 1, api.Vec{}, api.ErrFit},
		{api.Sym{0, 0, most}, point - 1, api.Vec{}, api.ErrFit},
		{api.Sym{0, 0, -most}, point - 1, api.Vec{}, api.ErrFit},
		{api.Sym{1 << 18, -1 << 18, 0}, 1, api.Vec{most, -most, 0}, api.OK},
		{api.Sym{1<<18 + 1, 0, 0}, 1, api.Vec{}, api.ErrFit},
		{api.Sym{0, -1<<18 - 1, 0}, 1, api.Vec{}, api.ErrFit},
		{api.Sym{0, 0, 1<<18 + 1}, 1, api.Vec{}, api.ErrFit},
		{api.Sym{most, most, most}, 1, api.Vec{}, api.ErrFit},
		// The other entries don't come through the spread.
		{api.Sym{1, 2, 3, most, most, most}, point, api.Vec{1, 2, 3}, api.OK},
		{api.Sym{0, 0, 0, most, -most, most}, 1, api.Vec{}, api.OK},
	} {
		if k, e := holdsBest(t, c.p, c.spread); k != c.k || e != c.e {
			t.Error(c, k, e)
		}
	}
}

// TestBestWrong: one number that doesn't fit, wherever it stands, is ErrArg, ahead of what doesn't fit of the gain.
func TestBestWrong(t *testing.T) {
	for _, bad := range wrong() {
		for _, c := range []struct {
			p      api.Sym
			spread int64
		}{
			{api.Sym{}, point},
			{api.Sym{most, most, most}, 1},
			{api.Sym{bad, bad, bad, bad, bad, bad}, bad},
		} {
			for place := range c.p {
				p := c.p
				p[place] = bad
				wrongBest(t, p, c.spread)
			}
			wrongBest(t, c.p, bad)
		}
	}
}

func wrongBest(t *testing.T, p api.Sym, spread int64) {
	t.Helper()
	if k, e := Best(p, spread); k != (api.Vec{}) || e != api.ErrArg {
		t.Error(p, spread, k, e)
	}
	if k, e := Of(p, spread, false, api.Vec{1, 2, 3}); k != (api.Vec{}) || e != api.ErrArg {
		t.Error(p, spread, k, e)
	}
}

// TestLastThatFits: at each place the last entry whose share fits does, and the next one is ErrFit.
func TestLastThatFits(t *testing.T) {
	for _, spread := range []int64{1, 2, 3, 7, 1 << 20, 1<<20 + 1, point / 2, point - 3, point - 1} {
		// Less than half of one above 2^58 is still rounded to it, and just half, too, as it is even.
		last := new(big.Int).Mul(big.NewInt(2*most+1), big.NewInt(spread))
		entry := last.Rsh(last, 41).Int64()
		for i := range 3 {
			for _, sign := range []int64{1, -1} {
				var p api.Sym
				p[i] = sign * entry
				if _, e := holdsBest(t, p, spread); e != api.OK {
					t.Error(p, spread, e)
				}
				p[i] = sign * (entry + 1)
				if _, e := holdsBest(t, p, spread); e != api.ErrFit {
					t.Error(p, spread, e)
				}
			}
		}
	}
}

func TestOf(t *testing.T) {
	p, table := api.Sym{6, 8, -10, 100, 200, 300}, api.Vec{point / 4, -5, most}
	for _, c := range []struct {
		p      api.Sym
		spread int64
		short  bool
		table  api.Vec
		k      api.Vec
		e      api.Errno
	}{
		{p, 2 * point, true, table, table, api.OK},
		{p, 2 * point, false, table, api.Vec{3, 4, -5}, api.OK},
		{p, 2 * point, true, api.Vec{}, api.Vec{}, api.OK},
		{p, 2 * point, true, api.Vec{most, -most, most}, api.Vec{most, -most, most}, api.OK},
		{p, 2 * point, true, api.Vec{-1, -2, -3}, api.Vec{-1, -2, -3}, api.OK},
		// On a short cycle nothing is asked of doubt and spread, on another one nothing of the table.
		{p, 0, true, table, table, api.OK},
		{p, math.MinInt64, true, table, table, api.OK},
		{api.Sym{most + 1}, 1, true, table, table, api.OK},
		{api.Sym{most}, 1, true, table, table, api.OK},
		{p, 0, false, table, api.Vec{}, api.ErrArg},
		{api.Sym{most + 1}, 1, false, table, api.Vec{}, api.ErrArg},
		{api.Sym{most}, 1, false, table, api.Vec{}, api.ErrFit},
		{p, 2 * point, false, api.Vec{most + 1, 1, 1}, api.Vec{3, 4, -5}, api.OK},
		{p, 2 * point, false, api.Vec{math.MinInt64, math.MinInt64, math.MinInt64}, api.Vec{3, 4, -5}, api.OK},
		{api.Sym{most}, 1, true, api.Vec{0, 0, most + 1}, api.Vec{}, api.ErrArg},
		{api.Sym{most}, 1, false, api.Vec{0, 0, most + 1}, api.Vec{}, api.ErrFit},
	} {
		if k, e := Of(c.p, c.spread, c.short, c.table); k != c.k || e != c.e {
			t.Error(c, k, e)
		}
		holdsOf(t, c.p, c.spread, c.short, c.table)
	}
}

// TestTableWrong: a number of a table that doesn't fit, wherever it stands, is ErrArg on a short cycle.
func TestTableWrong(t *testing.T) {
	for _, bad := range wrong() {
		for i := range 3 {
			table := api.Vec{1, 2, 3}
			table[i] = bad
			if k, e := Of(api.Sym{1}, point, true, table); k != (api.Vec{}) || e != api.ErrArg {
				t.Error(table, k, e)
			}
			if k, e := Of(api.Sym{1}, point, false, table); k != (api.Vec{1}) || e != api.OK {
				t.Error(table, k, e)
			}
		}
	}
}

func TestMild(t *testing.T) {
	for _, c := range []struct {
		first int64
		mild  bool
	}{
		{0, true}, {1, true}, {point / 2, true}, {point - 1, true}, {point, true},
		{-1, false}, {point + 1, false}, {-point, false}, {2 * point, false},
		{most, false}, {-most, false}, {math.MaxInt64, false}, {math.MinInt64, false},
	} {
		for _, other := range append(edges(), wrong()...) {
			if Mild(api.Vec{c.first, other, -other}) != c.mild {
				t.Error(c, other)
			}
		}
	}
}

// TestBestIsMild: of an entry 00 from 0 on, and a spread not below it, at all edges.
func TestBestIsMild(t *testing.T) {
	for _, first := range edges() {
		for _, spread := range edges() {
			if first < 0 || spread < max(first, 1) {
				continue
			}
			k, e := holdsBest(t, api.Sym{first, -point, 1}, spread)
			if !Mild(k) {
				t.Error(first, spread, k)
			}
			if k, e = holdsBest(t, api.Sym{first}, spread); e != api.OK || !Mild(k) {
				t.Error(first, spread, k, e)
			}
		}
	}
}

func TestDrawn(t *testing.T) {
	next := drawn()
	var got [api.ErrFull + 1]int
	for range 40000 {
		p := api.Sym{next(), next(), next(), next(), next(), next()}
		table := api.Vec{next(), next(), next()}
		for _, spread := range []int64{next(), max(next(), 1)} {
			k, e := holdsBest(t, p, spread)
			if p[0] >= 0 && spread >= p[0] && !Mild(k) {
				t.Error(p, spread, k)
			}
			got[e]++
			got[holdsOf(t, p, spread, true, table)]++
			holdsOf(t, p, spread, false, table)
		}
	}
	if got[api.OK] < 20000 || got[api.ErrArg] < 20000 || got[api.ErrFit] < 5000 {
		t.Error("too few of a kind", got)
	}
}

// TestHandedIn: what is handed in stays as it is.
func TestHandedIn(t *testing.T) {
	p, table := api.Sym{4, 5, 6, 7, 8, 9}, api.Vec{1, 2, 3}
	for range 2 {
		if k, e := Best(p, point); k != (api.Vec{4, 5, 6}) || e != api.OK {
			t.Error(k, e)
		}
		if k, e := Of(p, point, true, table); k != table || e != api.OK {
			t.Error(k, e)
		}
	}
	if p != (api.Sym{4, 5, 6, 7, 8, 9}) || table != (api.Vec{1, 2, 3}) {
		t.Error(p, table)
	}
}
