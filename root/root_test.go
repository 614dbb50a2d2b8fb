package root

import (
	"math"
	"math/big"
	"testing"

	"aneroid/api"
	"aneroid/wide"
)

var greatest = api.Wide{Hi: math.MaxInt64, Lo: math.MaxUint64}

// greatestRoot is the root of the greatest wide number.
const greatestRoot = 13043817825332782212

// whole is a wide number by its definition: 2^64 times Hi, and Lo.
func whole(a api.Wide) *big.Int {
	x := new(big.Int).Lsh(big.NewInt(a.Hi), 64)
	return x.Add(x, new(big.Int).SetUint64(a.Lo))
}

// square is x times x, plus d, as a wide number; x up to greatestRoot.
func square(x uint64, d int64) api.Wide {
	n := new(big.Int).SetUint64(x)
	n.Mul(n, n).Add(n, big.NewInt(d))
	lo := new(big.Int).And(n, new(big.Int).SetUint64(math.MaxUint64))
	return api.Wide{Hi: new(big.Int).Rsh(n, 64).Int64(), Lo: lo.Uint64()}
}

// isRoot tells whether root's square isn't above a, and the next one's is.
func isRoot(root uint64, a *big.Int) bool {
	x := new(big.Int).SetUint64(root)
	next := new(big.Int).Add(x, big.NewInt(1))
	return x.Mul(x, x).Cmp(a) <= 0 && next.Mul(next, next).Cmp(a) > 0
}

// row are numbers of 64 bits, the same at each run.
func row(n int) []uint64 {
	var l []uint64
	x := uint64(3)
	for range n {
		x = x*6364136223846793005 + 1442695040888963407
		l = append(l, x)
	}
	return l
}

// numbers are those from 0 on: small ones, powers of 2 with their neighbours, and some of a row.
func numbers() []int64 {
	l := []int64{0, math.MaxInt64, math.MaxInt64 - 1, 1000000007}
	for x := range int64(20) {
		l = append(l, x)
	}
	for n := range 63 {
		p := int64(1) << n
		l = append(l, p-1, p, p+1)
	}
	for _, x := range row(60) {
		l = append(l, int64(x>>1)>>(x%61))
	}
	return l
}

func TestExamplesOfTheDocument(t *testing.T) {
	if n, e := Of(wide.Of(17)); n != 4 || e != api.OK {
		t.Error(n, e)
	}
	if n := Mean(2, 8); n != 4 {
		t.Error(n)
	}
}

func TestSmallRoots(t *testing.T) {
	want := uint64(0)
	for x := range int64(100000) {
		if int64(want+1)*int64(want+1) <= x {
			want++
		}
		if n, e := Of(wide.Of(x)); n != want || e != api.OK {
			t.Fatal(x, n, e, want)
		}
	}
}

// TestAtSquares: a square's root is told, one less has the next lesser one.
func TestAtSquares(t *testing.T) {
	roots := []uint64{1, 2, 3, 4, 10, 3037000499, 3037000500, greatestRoot - 1, greatestRoot}
	for n := range 64 {
		p := uint64(1) << n
		roots = append(roots, p, p+1)
		if p > 2 {
			roots = append(roots, p-1)
		}
	}
	for i, x := range row(200) {
		roots = append(roots, x>>1>>(i%60)|1)
	}
	for _, x := range roots {
		if n, e := Of(square(x, 0)); n != x || e != api.OK {
			t.Error(x, n, e)
		}
		if n, e := Of(square(x, -1)); n != x-1 || e != api.OK {
			t.Error(x, "less", n, e)
		}
		if x > 1 {
			if n, e := Of(square(x, 1)); n != x || e != api.OK {
				t.Error(x, "more", n, e)
			}
		}
	}
}

func TestGreatRoots(t *testing.T) {
	for a, want := range map[api.Wide]uint64{
		greatest:                            greatestRoot,
		{Hi: math.MaxInt64}:                 greatestRoot - 1,
		{Lo: math.MaxUint64}:                1<<32 - 1,
		{Hi: 1}:                             1 << 32,
		{Hi: 1 << 62}:                       1 << 63,
		{Hi: 1<<62 - 1, Lo: math.MaxUint64}: 1<<63 - 1,
		{Lo: math.MaxInt64}:                 3037000499,
		{Hi: 1<<62 - 1, Lo: 1}:              1<<63 - 1,
		{Hi: 1<<62 - 1}:                     1<<63 - 2,
		{Hi: math.MaxInt64, Lo: 9327242158449058832}: greatestRoot,
		{Hi: math.MaxInt64, Lo: 9327242158449058831}: greatestRoot - 1,
	} {
		if n, e := Of(a); n != want || e != api.OK {
			t.Error(a, n, e, want)
		}
	}
	l := row(600)
	for i := range len(l) / 2 {
		a := api.Wide{Hi: int64(l[2*i]>>1) >> (i % 63), Lo: l[2*i+1]}
		if n, e := Of(a); e != api.OK || !isRoot(n, whole(a)) {
			t.Error(a, n, e)
		}
	}
}

func TestBelowZero(t *testing.T) {
	for _, a := range []api.Wide{
		wide.Of(-1), wide.Of(-4), wide.Of(math.MinInt64), {Hi: -1}, {Hi: -1, Lo: 16},
		{Hi: math.MinInt64}, {Hi: math.MinInt64, Lo: 16}, {Hi: math.MinInt64, Lo: math.MaxUint64},
	} {
		if n, e := Of(a); n != 0 || e != api.ErrArg {
			t.Error(a, n, e)
		}
	}
}

func TestMeanAtTheEdges(t *testing.T) {
	for _, c := range [][3]int64{
		{0, 0, 0}, {0, math.MaxInt64, 0}, {1, math.MaxInt64, 3037000499}, {1, 1, 1}, {1, 2, 1}, {1, 3, 1}, {1, 4, 2},
		{3, 5, 3}, {4, 4, 4}, {1 << 58, 1 << 40, 1 << 49}, {1 << 58, 1 << 58, 1 << 58}, {1 << 58, 1<<58 - 1, 1<<58 - 1},
		{math.MaxInt64, math.MaxInt64, math.MaxInt64}, {math.MaxInt64, math.MaxInt64 - 1, math.MaxInt64 - 1},
	} {
		if n := Mean(c[0], c[1]); n != c[2] {
			t.Error(c, n)
		}
		if n := Mean(c[1], c[0]); n != c[2] {
			t.Error(c, "the other way", n)
		}
	}
}

// TestMeanBelowZero: one below 0 is enough, and so are two, though their product isn't.
func TestMeanBelowZero(t *testing.T) {
	for _, below := range []int64{-1, -2, -4, -1 << 40, math.MinInt64, math.MinInt64 + 1} {
		for _, other := range []int64{0, 1, 9, math.MaxInt64, -1, -9, below, math.MinInt64} {
			if n := Mean(below, other); n != 0 {
				t.Error(below, other, n)
			}
			if n := Mean(other, below); n != 0 {
				t.Error(other, below, n)
			}
		}
	}
}

// TestMean holds each mean against the product, and between its two numbers.
func TestMean(t *testing.T) {
	for _, x := range numbers() {
		for _, y := range numbers() {
			n := Mean(x, y)
			product := new(big.Int).Mul(big.NewInt(x), big.NewInt(y))
			if n < 0 || !isRoot(uint64(n), product) {
				t.Error(x, y, n)
			}
			if n < min(x, y) || n > max(x, y) {
				t.Error(x, y, n, "isn't between")
			}
		}
	}
}
