package wide

import (
	"math"
	"math/big"
	"testing"

	"aneroid/api"
)

var (
	least    = api.Wide{Hi: math.MinInt64}
	greatest = api.Wide{Hi: math.MaxInt64, Lo: math.MaxUint64}
)

// whole is a wide number by its definition: 2^64 times Hi, and Lo.
func whole(a api.Wide) *big.Int {
	x := new(big.Int).Lsh(big.NewInt(a.Hi), 64)
	return x.Add(x, new(big.Int).SetUint64(a.Lo))
}

func fits(x *big.Int) bool {
	return x.Cmp(whole(least)) >= 0 && x.Cmp(whole(greatest)) <= 0
}

// roundDown and roundEven are the document's quotients of whole numbers of any size.
func roundDown(a, b *big.Int) (q, rest *big.Int) {
	q, rest = new(big.Int).QuoRem(a, b, new(big.Int))
	if rest.Sign() != 0 && rest.Sign() != b.Sign() {
		q.Sub(q, big.NewInt(1))
		rest.Add(rest, b)
	}
	return q, rest
}

func roundEven(a, b *big.Int) *big.Int {
	q, rest := roundDown(a, b)
	twice := rest.Lsh(rest.Abs(rest), 1)
	side := twice.CmpAbs(b)
	if side > 0 || side == 0 && q.Bit(0) == 1 {
		q.Add(q, big.NewInt(1))
	}
	return q
}

// holds tells an answer that isn't want, or isn't ErrFit and 0 where want doesn't fit.
func holds(t *testing.T, what string, got api.Wide, e api.Errno, want *big.Int, in ...any) {
	t.Helper()
	if !fits(want) {
		if e != api.ErrFit || got != (api.Wide{}) {
			t.Errorf("%s%v: %v, %d; want ErrFit", what, in, got, e)
		}
		return
	}
	if e != api.OK || whole(got).Cmp(want) != 0 {
		t.Errorf("%s%v: %v, %d; want %v", what, in, got, e, want)
	}
}

// numbers are edges, their neighbours, all powers of 2 with theirs, and numbers of a fixed row.
func numbers() []int64 {
	l := []int64{math.MinInt64, math.MinInt64 + 1, math.MaxInt64 - 1, math.MaxInt64, 0, 3, 5, 6, 7, 10, -3, -5, -6, -7, -10, 1000000007, -1000000007}
	for n := range 63 {
		p := int64(1) << n
		l = append(l, p, -p, p+1, -p-1, p-1, 1-p)
	}
	x := uint64(1)
	for range 40 {
		x = x*6364136223846793005 + 1442695040888963407
		l = append(l, int64(x), int64(x)>>(x%61))
	}
	return l
}

func wides() []api.Wide {
	l := []api.Wide{
		least, {Hi: math.MinInt64, Lo: 1}, {Hi: math.MinInt64, Lo: math.MaxUint64}, {Hi: math.MinInt64 + 1},
		greatest, {Hi: math.MaxInt64, Lo: math.MaxUint64 - 1}, {Hi: math.MaxInt64},
		{}, {Lo: 1}, {Lo: 1<<63 - 1}, {Lo: 1 << 63}, {Lo: 1<<63 + 1}, {Lo: math.MaxUint64},
		{Hi: -1}, {Hi: -1, Lo: 1}, {Hi: -1, Lo: 1<<63 - 1}, {Hi: -1, Lo: 1 << 63}, {Hi: -1, Lo: math.MaxUint64},
		{Hi: 1}, {Hi: 1, Lo: 1}, {Hi: -2, Lo: math.MaxUint64},
		{Hi: 1 << 62}, {Hi: 1<<62 - 1, Lo: math.MaxUint64}, {Hi: -1 << 62}, {Hi: -1<<62 - 1, Lo: math.MaxUint64},
	}
	for _, x := range []uint64{2, 3, 5, 6, 7, 10} {
		l = append(l, api.Wide{Lo: x}, api.Wide{Hi: -1, Lo: -x})
	}
	x := uint64(7)
	for i := range 60 {
		x = x*6364136223846793005 + 1442695040888963407
		y := x*6364136223846793005 + 1442695040888963407
		l = append(l, api.Wide{Hi: int64(x) >> i, Lo: y})
		x = y
	}
	return l
}

func TestExamplesOfTheDocument(t *testing.T) {
	if a, e := Even(Of(5), 2); a != Of(2) || e != api.OK {
		t.Error(a, e)
	}
	if a, e := Even(Of(7), 2); a != Of(4) || e != api.OK {
		t.Error(a, e)
	}
	if a, e := Div(Of(-7), 2); a != Of(-4) || e != api.OK {
		t.Error(a, e)
	}
}

func TestOf(t *testing.T) {
	for x, want := range map[int64]api.Wide{
		0:             {},
		1:             {Lo: 1},
		-1:            {Hi: -1, Lo: math.MaxUint64},
		math.MaxInt64: {Lo: 1<<63 - 1},
		math.MinInt64: {Hi: -1, Lo: 1 << 63},
	} {
		if a := Of(x); a != want {
			t.Error(x, a)
		}
	}
	for _, x := range numbers() {
		if whole(Of(x)).Cmp(big.NewInt(x)) != 0 {
			t.Error(x, Of(x))
		}
	}
}

func TestInt(t *testing.T) {
	for _, x := range numbers() {
		if n, e := Int(Of(x)); n != x || e != api.OK {
			t.Error(x, n, e)
		}
	}
	for _, a := range []api.Wide{{Lo: 1 << 63}, {Lo: math.MaxUint64}, {Hi: 1}, greatest, {Hi: -1, Lo: 1<<63 - 1}, {Hi: -1}, {Hi: -2, Lo: math.MaxUint64}, least} {
		if n, e := Int(a); n != 0 || e != api.ErrFit {
			t.Error(a, n, e)
		}
	}
	for _, a := range wides() {
		n, e := Int(a)
		if x := whole(a); x.IsInt64() && (e != api.OK || n != x.Int64()) || !x.IsInt64() && (e != api.ErrFit || n != 0) {
			t.Error(a, n, e)
		}
	}
}

func TestCmp(t *testing.T) {
	rising := []api.Wide{least, {Hi: -1}, {Hi: -1, Lo: 1 << 63}, Of(-1), Of(0), Of(1), {Lo: 1 << 63}, {Lo: math.MaxUint64}, {Hi: 1}, greatest}
	for i, a := range rising {
		for j, b := range rising {
			want := 0
			if i < j {
				want = -1
			} else if i > j {
				want = 1
			}
			if c := Cmp(a, b); c != want {
				t.Error(a, b, c)
			}
		}
	}
	for _, a := range wides() {
		for _, b := range wides() {
			if Cmp(a, b) != whole(a).Cmp(whole(b)) {
				t.Error(a, b, Cmp(a, b))
			}
		}
	}
}

func TestAddAndSubAtTheEdges(t *testing.T) {
	for i, c := range []struct {
		a, b, want api.Wide
		e          api.Errno
	}{
		{greatest, Of(0), greatest, api.OK},
		{greatest, Of(1), api.Wide{}, api.ErrFit},
		{Of(1), greatest, api.Wide{}, api.ErrFit},
		{greatest, greatest, api.Wide{}, api.ErrFit},
		{least, Of(0), least, api.OK},
		{least, Of(-1), api.Wide{}, api.ErrFit},
		{least, least, api.Wide{}, api.ErrFit},
		{least, greatest, Of(-1), api.OK},
		{api.Wide{Lo: math.MaxUint64}, Of(1), api.Wide{Hi: 1}, api.OK},
	} {
		if a, e := Add(c.a, c.b); a != c.want || e != c.e {
			t.Error("add", i, a, e)
		}
	}
	for i, c := range []struct {
		a, b, want api.Wide
		e          api.Errno
	}{
		{Of(0), least, api.Wide{}, api.ErrFit},
		{Of(-1), least, greatest, api.OK},
		{least, Of(1), api.Wide{}, api.ErrFit},
		{least, least, Of(0), api.OK},
		{greatest, Of(-1), api.Wide{}, api.ErrFit},
		{greatest, greatest, Of(0), api.OK},
		{greatest, least, api.Wide{}, api.ErrFit},
		{api.Wide{Hi: 1}, Of(1), api.Wide{Lo: math.MaxUint64}, api.OK},
	} {
		if a, e := Sub(c.a, c.b); a != c.want || e != c.e {
			t.Error("sub", i, a, e)
		}
	}
}

func TestAddAndSub(t *testing.T) {
	for _, a := range wides() {
		for _, b := range wides() {
			sum, e := Add(a, b)
			holds(t, "Add", sum, e, new(big.Int).Add(whole(a), whole(b)), a, b)
			rest, e := Sub(a, b)
			holds(t, "Sub", rest, e, new(big.Int).Sub(whole(a), whole(b)), a, b)
		}
	}
}

func TestMul(t *testing.T) {
	for i, c := range []struct {
		x, y int64
		want api.Wide
	}{
		{3, 4, Of(12)},
		{-3, 4, Of(-12)},
		{-3, -4, Of(12)},
		{0, math.MinInt64, Of(0)},
		{math.MinInt64, math.MinInt64, api.Wide{Hi: 1 << 62}},
		{math.MinInt64, -1, api.Wide{Lo: 1 << 63}},
		{math.MinInt64, math.MaxInt64, api.Wide{Hi: -1 << 62, Lo: 1 << 63}},
		{math.MaxInt64, math.MaxInt64, api.Wide{Hi: 1<<62 - 1, Lo: 1}},
	} {
		if a := Mul(c.x, c.y); a != c.want {
			t.Error(i, a)
		}
	}
	for _, x := range numbers() {
		for _, y := range numbers() {
			holds(t, "Mul", Mul(x, y), api.OK, new(big.Int).Mul(big.NewInt(x), big.NewInt(y)), x, y)
		}
	}
}

// TestWrongPowers: n outside 0 to 127 is ErrArg, also where the product doesn't fit.
func TestWrongPowers(t *testing.T) {
	for _, n := range []int{-1, 128, -128, 129, 256, -64, math.MinInt, math.MaxInt} {
		for _, x := range []api.Wide{Of(0), Of(1), Of(-1), least, greatest} {
			if a, e := Up(x, n); a != (api.Wide{}) || e != api.ErrArg {
				t.Error("up", x, n, a, e)
			}
			if a, e := Half(x, n); a != (api.Wide{}) || e != api.ErrArg {
				t.Error("half", x, n, a, e)
			}
		}
	}
}

func TestUpAndHalfAtTheEdges(t *testing.T) {
	for i, c := range []struct {
		a    api.Wide
		n    int
		want api.Wide
		e    api.Errno
	}{
		{greatest, 0, greatest, api.OK},
		{least, 0, least, api.OK},
		{Of(0), 127, Of(0), api.OK},
		{Of(-1), 127, least, api.OK},
		{Of(1), 127, api.Wide{}, api.ErrFit},
		{Of(-2), 127, api.Wide{}, api.ErrFit},
		{Of(1), 126, api.Wide{Hi: 1 << 62}, api.OK},
		{Of(1), 64, api.Wide{Hi: 1}, api.OK},
		{Of(3), 63, api.Wide{Hi: 1, Lo: 1 << 63}, api.OK},
		{greatest, 1, api.Wide{}, api.ErrFit},
		{least, 1, api.Wide{}, api.ErrFit},
	} {
		if a, e := Up(c.a, c.n); a != c.want || e != c.e {
			t.Error("up", i, a, e)
		}
	}
	for i, c := range []struct {
		a    api.Wide
		n    int
		want api.Wide
	}{
		{greatest, 0, greatest},
		{least, 0, least},
		{greatest, 127, Of(1)},
		{least, 127, Of(-1)},
		{api.Wide{Hi: 1 << 62}, 127, Of(0)},
		{api.Wide{Hi: 1 << 62, Lo: 1}, 127, Of(1)},
		{api.Wide{Hi: -1 << 62}, 127, Of(0)},
		{api.Wide{Hi: -1<<62 - 1, Lo: math.MaxUint64}, 127, Of(-1)},
		{Of(1), 1, Of(0)},
		{Of(3), 1, Of(2)},
		{Of(5), 1, Of(2)},
		{Of(-1), 1, Of(0)},
		{Of(-3), 1, Of(-2)},
		{Of(-5), 1, Of(-2)},
		{greatest, 1, api.Wide{Hi: 1 << 62}},
		{api.Wide{Lo: 1 << 63}, 64, Of(0)},
		{api.Wide{Hi: 1, Lo: 1 << 63}, 64, Of(2)},
	} {
		if a, e := Half(c.a, c.n); a != c.want || e != api.OK {
			t.Error("half", i, a, e)
		}
	}
}

func TestUpAndHalf(t *testing.T) {
	for n := range 128 {
		power := new(big.Int).Lsh(big.NewInt(1), uint(n))
		for _, a := range wides() {
			up, e := Up(a, n)
			holds(t, "Up", up, e, new(big.Int).Mul(whole(a), power), a, n)
			half, e := Half(a, n)
			holds(t, "Half", half, e, roundEven(whole(a), power), a, n)
		}
	}
}

func TestDivisorZero(t *testing.T) {
	for _, a := range wides() {
		if q, e := Div(a, 0); q != (api.Wide{}) || e != api.ErrZero {
			t.Error("div", a, q, e)
		}
		if q, e := Even(a, 0); q != (api.Wide{}) || e != api.ErrZero {
			t.Error("even", a, q, e)
		}
	}
}

func TestQuotientsAtTheEdges(t *testing.T) {
	for i, c := range []struct {
		a          api.Wide
		b          int64
		down, even api.Wide
		e          api.Errno
	}{
		{least, -1, api.Wide{}, api.Wide{}, api.ErrFit},
		{least, 1, least, least, api.OK},
		{least, 2, api.Wide{Hi: -1 << 62}, api.Wide{Hi: -1 << 62}, api.OK},
		{least, -2, api.Wide{Hi: 1 << 62}, api.Wide{Hi: 1 << 62}, api.OK},
		{least, math.MinInt64, api.Wide{Hi: 1}, api.Wide{Hi: 1}, api.OK},
		{greatest, 1, greatest, greatest, api.OK},
		{greatest, -1, api.Wide{Hi: math.MinInt64, Lo: 1}, api.Wide{Hi: math.MinInt64, Lo: 1}, api.OK},
		{greatest, 2, api.Wide{Hi: 1<<62 - 1, Lo: math.MaxUint64}, api.Wide{Hi: 1 << 62}, api.OK},
		{greatest, math.MinInt64, api.Wide{Hi: -1}, api.Wide{Hi: -1}, api.OK},
		{Of(math.MinInt64), -1, api.Wide{Lo: 1 << 63}, api.Wide{Lo: 1 << 63}, api.OK},
		{Of(1 << 62), math.MinInt64, Of(-1), Of(0), api.OK},
		{Of(-1 << 62), math.MinInt64, Of(0), Of(0), api.OK},
		{Of(-1<<62 - 1), math.MinInt64, Of(0), Of(1), api.OK},
		{Of(0), math.MinInt64, Of(0), Of(0), api.OK},
		{Of(7), 2, Of(3), Of(4), api.OK},
		{Of(-7), 2, Of(-4), Of(-4), api.OK},
		{Of(7), -2, Of(-4), Of(-4), api.OK},
		{Of(-7), -2, Of(3), Of(4), api.OK},
		{Of(5), 2, Of(2), Of(2), api.OK},
		{Of(-5), 2, Of(-3), Of(-2), api.OK},
		{Of(-1), 2, Of(-1), Of(0), api.OK},
		{Of(-1), math.MaxInt64, Of(-1), Of(0), api.OK},
		{Of(-8), 3, Of(-3), Of(-3), api.OK},
		{Of(-7), 3, Of(-3), Of(-2), api.OK},
		{Of(6), 3, Of(2), Of(2), api.OK},
		{Of(-6), 3, Of(-2), Of(-2), api.OK},
	} {
		if q, e := Div(c.a, c.b); q != c.down || e != c.e {
			t.Error("div", i, q, e)
		}
		if q, e := Even(c.a, c.b); q != c.even || e != c.e {
			t.Error("even", i, q, e)
		}
	}
}

func TestQuotients(t *testing.T) {
	for _, b := range numbers() {
		if b == 0 {
			continue
		}
		by := big.NewInt(b)
		for _, a := range wides() {
			down, e := Div(a, b)
			q, _ := roundDown(whole(a), by)
			holds(t, "Div", down, e, q, a, b)
			even, e := Even(a, b)
			holds(t, "Even", even, e, roundEven(whole(a), by), a, b)
		}
	}
}

// TestHalvesToEven: quotients that are just between two numbers, at all sizes of the divisor.
func TestHalvesToEven(t *testing.T) {
	for _, h := range []int64{1, 2, 3, 1 << 20, 1<<40 + 1, 1<<61 + 12345, 1<<62 - 1} {
		for odd := int64(-9); odd <= 9; odd += 2 {
			want := (odd - 1) / 2
			if odd < 0 {
				want = (odd+1)/2 - 1
			}
			if want%2 != 0 {
				want++
			}
			if q, e := Even(Mul(odd, h), 2*h); q != Of(want) || e != api.OK {
				t.Error(odd, h, q, e)
			}
			if q, e := Even(Mul(odd, h), -2*h); q != Of(-want) || e != api.OK {
				t.Error(odd, -h, q, e)
			}
		}
	}
}
