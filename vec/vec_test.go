package vec

import (
	"math"
	"math/big"
	"testing"

	"aneroid/api"
)

const (
	one  = int64(1) << 40
	most = int64(1) << 58
)

// wrong are numbers that don't fit.
func wrong() []int64 {
	return []int64{most + 1, -most - 1, 2 * most, -2 * most, math.MaxInt64, math.MinInt64, math.MinInt64 + 1}
}

// numbers are edges and their neighbours, those around one half and 1, and some that don't fit.
func numbers() []int64 {
	l := append(wrong(), 0, most, -most, most-1, 1-most)
	for _, n := range []int{0, 1, 17, 18, 19, 38, 39, 40, 41, 48, 49, 50, 57} {
		p := int64(1) << n
		l = append(l, p, -p, p+1, -p-1, p-1, 1-p)
	}
	return l
}

// rows are made of numbers, and of some of a fixed row in all sizes, the most of which fit.
func rows(n int) []api.Vec {
	var l []api.Vec
	edges := numbers()
	x := uint64(7)
	next := func() uint64 {
		x = x*6364136223846793005 + 1442695040888963407
		return x >> 1
	}
	for k := range n {
		var a api.Vec
		for i := range a {
			if k%3 == 0 {
				a[i] = edges[next()>>20%uint64(len(edges))]
			} else {
				a[i] = int64(next()<<1) >> (5 + next()>>20%56)
			}
		}
		l = append(l, a)
	}
	return l
}

func power(n uint) *big.Int { return new(big.Int).Lsh(big.NewInt(1), n) }

func fits(x *big.Int) bool { return x.CmpAbs(power(58)) <= 0 }

func allFit(l ...int64) bool {
	for _, x := range l {
		if !fits(big.NewInt(x)) {
			return false
		}
	}
	return true
}

func product(a, b int64) *big.Int { return new(big.Int).Mul(big.NewInt(a), big.NewInt(b)) }

// throughOne is x through 2^40, rounded to even, in whole numbers of any size.
func throughOne(x *big.Int) *big.Int {
	q, rest := new(big.Int).DivMod(x, power(40), new(big.Int))
	side := rest.Cmp(power(39))
	if side > 0 || side == 0 && q.Bit(0) == 1 {
		q.Add(q, big.NewInt(1))
	}
	return q
}

// holdsRow tells a row that isn't want, number by number, or isn't ErrFit and zeros where one of want doesn't fit.
func holdsRow(t *testing.T, got api.Vec, e api.Errno, want [3]*big.Int, in ...any) {
	t.Helper()
	row := api.Vec{}
	for i, x := range want {
		if !fits(x) {
			if got != (api.Vec{}) || e != api.ErrFit {
				t.Error(in, got, e, "want ErrFit")
			}
			return
		}
		row[i] = x.Int64()
	}
	if got != row || e != api.OK {
		t.Error(in, got, e, "want", row)
	}
}

// placed is other at all places but i, where x stands.
func placed(other int64, i int, x int64) api.Vec {
	a := api.Vec{other, other, other}
	a[i] = x
	return a
}

func TestExamplesOfTheDocument(t *testing.T) {
	a, e := Scale(api.Vec{1 * one, 2 * one, 3 * one}, 2*one)
	if a != (api.Vec{2 * one, 4 * one, 6 * one}) || e != api.OK {
		t.Error(a, e)
	}
	if d, e := Dot(a, api.Vec{1 * one, 0, 0}); d != 2*one || e != api.OK {
		t.Error(d, e)
	}
}

func TestFits(t *testing.T) {
	for _, a := range []api.Vec{{}, {most, most, most}, {-most, -most, -most}, {most, -most, 0}, {1, -1, most - 1}} {
		if !Fits(a) {
			t.Error(a)
		}
	}
	for i := range 3 {
		for _, x := range wrong() {
			for _, other := range []int64{0, 1, -1, most, -most, x} {
				if a := placed(other, i, x); Fits(a) {
					t.Error(a)
				}
			}
		}
	}
	for _, a := range rows(3000) {
		if Fits(a) != allFit(a[:]...) {
			t.Error(a)
		}
	}
}

// TestWrongRows: one number that doesn't fit, wherever it stands, is ErrArg, ahead of what comes of the others.
func TestWrongRows(t *testing.T) {
	for i := range 3 {
		for _, x := range wrong() {
			for _, other := range []int64{0, 1, one, most, -most} {
				bad, good := placed(other, i, x), api.Vec{other, other, other}
				for _, pair := range [][2]api.Vec{{bad, good}, {good, bad}, {bad, bad}, {bad, {}}, {{}, bad}} {
					if a, e := Add(pair[0], pair[1]); a != (api.Vec{}) || e != api.ErrArg {
						t.Error("Add", pair, a, e)
					}
					if d, e := Dot(pair[0], pair[1]); d != 0 || e != api.ErrArg {
						t.Error("Dot", pair, d, e)
					}
				}
				if a, e := Scale(bad, other); a != (api.Vec{}) || e != api.ErrArg {
					t.Error("Scale", bad, other, a, e)
				}
				if a, e := Scale(good, x); a != (api.Vec{}) || e != api.ErrArg {
					t.Error("Scale", good, x, a, e)
				}
			}
		}
	}
}

// TestOneThatComes: wherever one number that comes doesn't fit, the row is ErrFit, and zeros.
func TestOneThatComes(t *testing.T) {
	for i := range 3 {
		for _, sign := range []int64{1, -1} {
			if a, e := Add(placed(5, i, sign*most), placed(7, i, 0)); a != placed(12, i, sign*most) || e != api.OK {
				t.Error("Add", i, a, e)
			}
			if a, e := Add(placed(5, i, sign*most), placed(7, i, sign)); a != (api.Vec{}) || e != api.ErrFit {
				t.Error("Add", i, a, e)
			}
			if a, e := Scale(placed(3, i, sign*most/2), 2*one); a != placed(6, i, sign*most) || e != api.OK {
				t.Error("Scale", i, a, e)
			}
			if a, e := Scale(placed(3, i, sign*(most/2+1)), 2*one); a != (api.Vec{}) || e != api.ErrFit {
				t.Error("Scale", i, a, e)
			}
		}
	}
}

func TestAdd(t *testing.T) {
	l := rows(4000)
	for k := range len(l) / 2 {
		a, b := l[2*k], l[2*k+1]
		sum, e := Add(a, b)
		if !allFit(a[:]...) || !allFit(b[:]...) {
			if sum != (api.Vec{}) || e != api.ErrArg {
				t.Error(a, b, sum, e)
			}
			continue
		}
		var want [3]*big.Int
		for i := range want {
			want[i] = new(big.Int).Add(big.NewInt(a[i]), big.NewInt(b[i]))
		}
		holdsRow(t, sum, e, want, a, b)
	}
}

// TestScaleRounds: each product is rounded to even by itself.
func TestScaleRounds(t *testing.T) {
	if a, e := Scale(api.Vec{1, 3, 5}, one/2); a != (api.Vec{0, 2, 2}) || e != api.OK {
		t.Error(a, e)
	}
	if a, e := Scale(api.Vec{-1, -3, -5}, one/2); a != (api.Vec{0, -2, -2}) || e != api.OK {
		t.Error(a, e)
	}
	if a, e := Scale(api.Vec{1, -1, 0}, one/2+1); a != (api.Vec{1, -1, 0}) || e != api.OK {
		t.Error(a, e)
	}
}

func TestScale(t *testing.T) {
	for _, a := range rows(600) {
		for _, k := range numbers() {
			row, e := Scale(a, k)
			if !allFit(a[0], a[1], a[2], k) {
				if row != (api.Vec{}) || e != api.ErrArg {
					t.Error(a, k, row, e)
				}
				continue
			}
			holdsRow(t, row, e, [3]*big.Int{
				throughOne(product(a[0], k)), throughOne(product(a[1], k)), throughOne(product(a[2], k)),
			}, a, k)
		}
	}
}

// TestDotRoundsOnce: halves and quarters count together, and what doesn't fit on the way may come to fit.
func TestDotRoundsOnce(t *testing.T) {
	for _, c := range []struct {
		a, b api.Vec
		d    int64
		e    api.Errno
	}{
		{api.Vec{one / 2, 0, 0}, api.Vec{1, 1, 1}, 0, api.OK},
		{api.Vec{one / 2, one / 2, 0}, api.Vec{1, 1, 1}, 1, api.OK},
		{api.Vec{one / 2, one / 2, one / 2}, api.Vec{1, 1, 1}, 2, api.OK},
		{api.Vec{one / 2, one / 2, one / 2}, api.Vec{-1, -1, -1}, -2, api.OK},
		{api.Vec{one / 4, one / 4, 0}, api.Vec{1, 1, 1}, 0, api.OK},
		{api.Vec{one / 4, one / 4, 1}, api.Vec{1, 1, 1}, 1, api.OK},
		{api.Vec{one / 4, one / 4, one / 4}, api.Vec{1, 1, 1}, 1, api.OK},
		{api.Vec{one / 2, 1, 0}, api.Vec{1, -1, 0}, 0, api.OK},
		{api.Vec{3 * one / 2, 1, 0}, api.Vec{1, -1, 0}, 1, api.OK},
		{api.Vec{0, 0, one}, api.Vec{0, 0, most}, most, api.OK},
		{api.Vec{0, one, one}, api.Vec{0, -most, 0}, -most, api.OK},
		{api.Vec{one, one, 0}, api.Vec{most, 1, 0}, 0, api.ErrFit},
		{api.Vec{one, one / 2, 0}, api.Vec{most, 1, 0}, most, api.OK},
		{api.Vec{one, one / 2, 1}, api.Vec{most, 1, 1}, 0, api.ErrFit},
		{api.Vec{one, one / 2, 1}, api.Vec{-most, -1, -1}, 0, api.ErrFit},
		{api.Vec{most, most, most}, api.Vec{most, most, most}, 0, api.ErrFit},
		{api.Vec{most, most, most}, api.Vec{-most, -most, -most}, 0, api.ErrFit},
		{api.Vec{most, most, one}, api.Vec{most, -most, 3}, 3, api.OK},
		{api.Vec{most, one, most}, api.Vec{-most, 3, most}, 3, api.OK},
		{api.Vec{64 * one, 0, 0}, api.Vec{most, 0, 0}, 0, api.ErrFit},
	} {
		if d, e := Dot(c.a, c.b); d != c.d || e != c.e {
			t.Error(c, d, e)
		}
		if d, e := Dot(c.b, c.a); d != c.d || e != c.e {
			t.Error(c, "the other way", d, e)
		}
	}
}

func TestDot(t *testing.T) {
	l := rows(6000)
	for k := range len(l) / 2 {
		a, b := l[2*k], l[2*k+1]
		d, e := Dot(a, b)
		if !allFit(a[:]...) || !allFit(b[:]...) {
			if d != 0 || e != api.ErrArg {
				t.Error(a, b, d, e)
			}
			continue
		}
		sum := new(big.Int)
		for i := range a {
			sum.Add(sum, product(a[i], b[i]))
		}
		want := throughOne(sum)
		if !fits(want) {
			if d != 0 || e != api.ErrFit {
				t.Error(a, b, d, e)
			}
		} else if e != api.OK || d != want.Int64() {
			t.Error(a, b, d, e, want)
		}
	}
}

// TestClamp: each number by the one at its place, at all numbers; by one below 0 it is 0.
func TestClamp(t *testing.T) {
	for _, c := range [][3]api.Vec{
		{{5, -5, 2}, {3, 3, 3}, {3, -3, 2}},
		{{5, 5, 5}, {1, 2, 9}, {1, 2, 5}},
		{{-5, -5, -5}, {9, 2, 1}, {-5, -2, -1}},
		{{5, -5, 0}, {-1, -7, -9}, {}},
		{{5, -5, 0}, {0, 0, 0}, {}},
		{{3, -3, 3}, {3, 3, 2}, {3, -3, 2}},
		{{math.MinInt64, math.MaxInt64, math.MinInt64}, {math.MaxInt64, math.MaxInt64, math.MinInt64}, {-math.MaxInt64, math.MaxInt64, 0}},
		{{most + 1, -most - 1, 1}, {math.MaxInt64, most, 0}, {most + 1, -most, 0}},
	} {
		if a := Clamp(c[0], c[1]); a != c[2] {
			t.Error(c, a)
		}
	}
	l := rows(3000)
	for k := range len(l) / 2 {
		a, bound := l[2*k], l[2*k+1]
		got := Clamp(a, bound)
		for i, x := range got {
			want := int64(0)
			if bound[i] > 0 {
				want = max(-bound[i], min(bound[i], a[i]))
			}
			if x != want {
				t.Error(a, bound, got, i)
			}
		}
	}
}

func TestLeast(t *testing.T) {
	for i := range 3 {
		for _, x := range []int64{-3, 0, 3, 4, -most - 1, math.MinInt64} {
			if n := Least(placed(4, i, x)); n != x {
				t.Error(i, x, n)
			}
			if n := Least(placed(math.MaxInt64, i, x)); n != x {
				t.Error(i, x, n)
			}
		}
		if n := Least(placed(4, i, 5)); n != 4 {
			t.Error(i, n)
		}
	}
	for a, want := range map[api.Vec]int64{
		{1, 2, 3}: 1, {2, 3, 1}: 1, {3, 1, 2}: 1, {3, 2, 1}: 1, {}: 0,
		{math.MaxInt64, math.MaxInt64, math.MaxInt64}: math.MaxInt64,
		{math.MaxInt64, math.MinInt64, 0}:             math.MinInt64,
	} {
		if n := Least(a); n != want {
			t.Error(a, n)
		}
	}
}

// TestHandedIn: rows that are handed in stay as they are, and an answer is a row of its own.
func TestHandedIn(t *testing.T) {
	a, b := api.Vec{1, -2, 3}, api.Vec{4, 5, 1}
	sum, _ := Add(a, b)
	clamped := Clamp(a, b)
	sum[0], clamped[1] = 99, 99
	if a != (api.Vec{1, -2, 3}) || b != (api.Vec{4, 5, 1}) {
		t.Error(a, b)
	}
	if again, _ := Add(a, b); again != (api.Vec{5, 3, 4}) {
		t.Error(again)
	}
}
