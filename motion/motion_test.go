package motion

import (
	"math"
	"math/big"
	"testing"

	"aneroid/api"
)

const (
	one  = int64(1) << 40
	most = int64(1) << 58
)

// wrong are numbers that don't fit.
func wrong() []int64 {
	return []int64{most + 1, -most - 1, 2 * most, -2 * most, math.MaxInt64, math.MinInt64, math.MinInt64 + 1}
}

// edges fit: the greatest, and halves of the powers that are rounded by, with their neighbours.
func edges() []int64 {
	l := []int64{0, most, -most, most - 1, 1 - most}
	for _, n := range []int{0, 5, 6, 7, 13, 14, 15, 40, 50, 51, 52, 57} {
		for _, k := range []int64{1, 3} {
			p := min(k<<n, most)
			l = append(l, p, -p, min(p+1, most), max(-p-1, -most), p-1, 1-p)
		}
	}
	return l
}

// drawn is a fixed row of numbers in all sizes that fit, edges among them.
func drawn() func() int64 {
	l := edges()
	x := uint64(11)
	next := func() uint64 {
		x = x*6364136223846793005 + 1442695040888963407
		return x >> 1
	}
	return func() int64 {
		if next()>>20%3 == 0 {
			return l[next()>>20%uint64(len(l))]
		}
		return int64(next()<<1) >> (6 + next()>>20%56)
	}
}

func fits(x *big.Int) bool { return x.CmpAbs(new(big.Int).Lsh(big.NewInt(1), 58)) <= 0 }

func sum(a, b *big.Int) *big.Int { return new(big.Int).Add(a, b) }

// through is x through 2^n, rounded to even, in whole numbers of any size.
func through(x *big.Int, n uint) *big.Int {
	p := new(big.Int).Lsh(big.NewInt(1), n)
	q, rest := new(big.Int).DivMod(x, p, new(big.Int))
	side := rest.Lsh(rest, 1).Cmp(p)
	if side > 0 || side == 0 && q.Bit(0) == 1 {
		q.Add(q, big.NewInt(1))
	}
	return q
}

// wanted is what On has to answer, in whole numbers of any size.
func wanted(x api.Vec, thrust int64) (api.Vec, api.Errno) {
	for _, n := range []int64{x[0], x[1], x[2], thrust} {
		if !fits(big.NewInt(n)) {
			return api.Vec{}, api.ErrArg
		}
	}
	drive := new(big.Int).Sub(big.NewInt(thrust), big.NewInt(x[2]))
	climb := sum(new(big.Int).Mul(big.NewInt(256), big.NewInt(x[1])), drive)
	altitude := sum(big.NewInt(x[0]), through(climb, 15))
	speed := sum(big.NewInt(x[1]), through(drive, 7))
	if !fits(drive) || !fits(altitude) || !fits(speed) {
		return api.Vec{}, api.ErrFit
	}
	return api.Vec{altitude.Int64(), speed.Int64(), x[2]}, api.OK
}

// holdsOn tells an answer of On that isn't as wanted.
func holdsOn(t *testing.T, x api.Vec, thrust int64) api.Errno {
	t.Helper()
	y, e := On(x, thrust)
	want, ee := wanted(x, thrust)
	if y != want || e != ee {
		t.Error(x, thrust, y, e, "want", want, ee)
	}
	return e
}

func TestExampleOfTheDocument(t *testing.T) {
	if y, e := On(api.Vec{0, one, 0}, 0); y != (api.Vec{one / 128, one, 0}) || e != api.OK {
		t.Error(y, e)
	}
}

// TestOnRoundsOnce: speed and drive are rounded to even together for the altitude, the drive by itself for the speed.
func TestOnRoundsOnce(t *testing.T) {
	for _, c := range []struct {
		x      api.Vec
		thrust int64
		y      api.Vec
	}{
		{api.Vec{0, 64, 0}, 0, api.Vec{0, 64, 0}},
		{api.Vec{0, 64, 0}, 1, api.Vec{1, 64, 0}},
		{api.Vec{0, 64, 0}, -1, api.Vec{0, 64, 0}},
		{api.Vec{1, 64, 0}, 0, api.Vec{1, 64, 0}},
		{api.Vec{0, 192, 0}, 0, api.Vec{2, 192, 0}},
		{api.Vec{0, -64, 0}, 0, api.Vec{0, -64, 0}},
		{api.Vec{0, -64, 0}, -1, api.Vec{-1, -64, 0}},
		{api.Vec{0, -192, 0}, 0, api.Vec{-2, -192, 0}},
		{api.Vec{0, 32, 0}, 1 << 13, api.Vec{0, 32 + 64, 0}},
		{api.Vec{0, 32, 0}, 1<<13 + 1, api.Vec{1, 32 + 64, 0}},
		{api.Vec{0, 63, 0}, 1 << 8, api.Vec{0, 65, 0}},
		{api.Vec{0, 63, 0}, 1<<8 + 1, api.Vec{1, 65, 0}},
		{api.Vec{}, 64, api.Vec{0, 0, 0}},
		{api.Vec{}, 65, api.Vec{0, 1, 0}},
		{api.Vec{}, 192, api.Vec{0, 2, 0}},
		{api.Vec{}, -64, api.Vec{0, 0, 0}},
		{api.Vec{}, -65, api.Vec{0, -1, 0}},
		{api.Vec{}, -192, api.Vec{0, -2, 0}},
		{api.Vec{0, 1, 0}, 64, api.Vec{0, 1, 0}},
		{api.Vec{0, 0, 64}, 0, api.Vec{0, 0, 64}},
		{api.Vec{0, 0, 192}, 0, api.Vec{0, -2, 192}},
		{api.Vec{0, 0, 192}, 192, api.Vec{0, 0, 192}},
		{api.Vec{7, 0, one}, 2 * one, api.Vec{7 + one>>15, one >> 7, one}},
		{api.Vec{}, 1 << 14, api.Vec{0, 128, 0}},
		{api.Vec{}, 3 << 14, api.Vec{2, 3 * 128, 0}},
	} {
		if y, e := On(c.x, c.thrust); y != c.y || e != api.OK {
			t.Error(c.x, c.thrust, y, e, "want", c.y)
		}
	}
}

// TestOnWrong: one number that doesn't fit, wherever it stands, is ErrArg, ahead of a drive or a state that doesn't.
func TestOnWrong(t *testing.T) {
	for _, bad := range wrong() {
		for _, other := range []int64{0, 1, one, most, -most, bad} {
			for i := range 4 {
				l := [4]int64{other, other, other, other}
				l[i] = bad
				if y, e := On(api.Vec{l[0], l[1], l[2]}, l[3]); y != (api.Vec{}) || e != api.ErrArg {
					t.Error(l, y, e)
				}
			}
		}
		if y, e := On(api.Vec{bad, 0, most}, -most); y != (api.Vec{}) || e != api.ErrArg {
			t.Error(bad, y, e)
		}
		if y, e := On(api.Vec{most, most, most}, bad); y != (api.Vec{}) || e != api.ErrArg {
			t.Error(bad, y, e)
		}
	}
}

// TestOnAtTheEdge: the drive, the altitude and the speed that come fit up to the last one, and are ErrFit beyond it.
func TestOnAtTheEdge(t *testing.T) {
	for _, sign := range []int64{1, -1} {
		for _, c := range []struct {
			x      api.Vec
			thrust int64
			e      api.Errno
		}{
			{api.Vec{0, 0, most}, 0, api.OK},
			{api.Vec{0, 0, most}, -1, api.ErrFit},
			{api.Vec{0, 0, -most}, 0, api.OK},
			{api.Vec{0, 0, -1}, most, api.ErrFit},
			{api.Vec{0, 0, 1}, most, api.OK},
			{api.Vec{0, 0, -most}, most, api.ErrFit},
			{api.Vec{0, 0, most}, most, api.OK},
			{api.Vec{most, 0, 0}, 0, api.OK},
			{api.Vec{most, 64, 0}, 0, api.OK},
			{api.Vec{most, 64, 0}, 1, api.ErrFit},
			{api.Vec{most - 1, 64, 0}, 1, api.OK},
			{api.Vec{most, -128, 0}, 0, api.OK},
			{api.Vec{most, 128, 0}, 0, api.ErrFit},
			{api.Vec{most - 1, 128, 0}, 0, api.OK},
			{api.Vec{most - most/128, most, 0}, 0, api.OK},
			{api.Vec{most - most/128 + 1, most, 0}, 0, api.ErrFit},
			{api.Vec{-most, most, 0}, 0, api.OK},
			{api.Vec{0, most, 0}, 0, api.OK},
			{api.Vec{0, most, 0}, 64, api.OK},
			{api.Vec{0, most, 0}, 65, api.ErrFit},
			{api.Vec{0, most - 1, 0}, 65, api.OK},
			{api.Vec{0, most - most/128, 0}, most, api.OK},
			{api.Vec{0, most - most/128 + 1, 0}, most, api.ErrFit},
			{api.Vec{most, most, most}, -most, api.ErrFit},
		} {
			x := api.Vec{sign * c.x[0], sign * c.x[1], sign * c.x[2]}
			if e := holdsOn(t, x, sign*c.thrust); e != c.e {
				t.Error(x, sign*c.thrust, e, "want", c.e)
			}
		}
	}
}

func TestOn(t *testing.T) {
	next := drawn()
	for range 40000 {
		holdsOn(t, api.Vec{next(), next(), next()}, next())
	}
	for _, n := range edges() {
		for _, m := range edges() {
			holdsOn(t, api.Vec{5, n, 0}, m)
			holdsOn(t, api.Vec{-5, 0, n}, m)
			holdsOn(t, api.Vec{n, m, 0}, 0)
			holdsOn(t, api.Vec{n, 0, -m}, 0)
		}
	}
}

// TestAtRest: without thrust a state at rest stays as it is, however often it is moved on.
func TestAtRest(t *testing.T) {
	for _, altitude := range edges() {
		x := api.Vec{altitude, 0, 0}
		if !Rest(x) {
			t.Error(x)
		}
		for range 3 {
			y, e := On(x, 0)
			if y != (api.Vec{altitude, 0, 0}) || e != api.OK {
				t.Error(altitude, y, e)
			}
			x = y
		}
	}
}

// TestKept: number by number, at all numbers; by a bound below 0 it is 0.
func TestKept(t *testing.T) {
	for _, c := range [][3]api.Vec{
		{{9, -9, 1}, {5, 5, 5}, {5, -5, 1}},
		{{9, 9, 9}, {1, 2, 20}, {1, 2, 9}},
		{{-9, -9, -9}, {20, 2, 1}, {-9, -2, -1}},
		{{5, -5, 5}, {5, 5, 4}, {5, -5, 4}},
		{{5, -5, 5}, {-1, -5, 0}, {0, 0, 0}},
		{{math.MinInt64, math.MaxInt64, math.MinInt64}, {math.MaxInt64, most, math.MinInt64}, {-math.MaxInt64, most, 0}},
		{{most + 1, -most - 1, 3}, {most + 1, most, most}, {most + 1, -most, 3}},
	} {
		if got := Kept(c[0], c[1]); got != c[2] {
			t.Error(c, got)
		}
	}
	next := drawn()
	for range 2000 {
		x, bound := api.Vec{next(), next(), next()}, api.Vec{next(), next(), next()}
		got := Kept(x, bound)
		for i := range got {
			want := int64(0)
			if bound[i] > 0 {
				want = max(-bound[i], min(bound[i], x[i]))
			}
			if got[i] != want {
				t.Error(x, bound, got, i)
			}
		}
	}
}

// TestRest: speed and bias count, of all numbers, and the altitude doesn't.
func TestRest(t *testing.T) {
	l := append(wrong(), edges()...)
	for _, n := range l {
		if !Rest(api.Vec{n, 0, 0}) {
			t.Error(n)
		}
		if rest := n == 0; Rest(api.Vec{0, n, 0}) != rest || Rest(api.Vec{3, 0, n}) != rest || Rest(api.Vec{n, n, n}) != rest {
			t.Error(n)
		}
		if Rest(api.Vec{n, 1, 0}) || Rest(api.Vec{n, 0, -1}) || Rest(api.Vec{n, 1, -1}) {
			t.Error(n)
		}
	}
}

// TestHandedIn: what is handed in stays as it is, and an answer is a row of its own.
func TestHandedIn(t *testing.T) {
	x, bound := api.Vec{1, 2 * one, 3}, api.Vec{9, 9, 9}
	y, _ := On(x, 3)
	kept := Kept(x, bound)
	y[0], kept[0] = 99, 99
	if x != (api.Vec{1, 2 * one, 3}) || bound != (api.Vec{9, 9, 9}) {
		t.Error(x, bound)
	}
	if again, _ := On(x, 3); again != (api.Vec{1 + 2*one/128, 2 * one, 3}) {
		t.Error(again)
	}
}
