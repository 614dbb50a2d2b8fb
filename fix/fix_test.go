package fix

import (
	"math"
	"math/big"
	"testing"

	"aneroid/api"
)

const most = int64(1) << 58

// numbers are edges, their neighbours, all powers of 2 with theirs, and numbers of a fixed row.
func numbers() []int64 {
	l := []int64{math.MinInt64, math.MinInt64 + 1, math.MaxInt64, 0, 3, 5, 6, 7, 10, -3, -5, -6, -7, -10, 3 << 39, -3 << 39, 5 << 39, 1000000007, -1000000007}
	for n := range 63 {
		p := int64(1) << n
		l = append(l, p, -p, p+1, -p-1, p-1, 1-p)
	}
	x := uint64(1)
	for range 60 {
		x = x*6364136223846793005 + 1442695040888963407
		l = append(l, int64(x), int64(x)>>(x%61), int64(x)>>5)
	}
	return l
}

// through is a quotient, rounded to even, of whole numbers of any size.
func through(a, b *big.Int) *big.Int {
	q, rest := new(big.Int).DivMod(a, b, new(big.Int))
	side := rest.Lsh(rest, 1).CmpAbs(b)
	up := side > 0 || side == 0 && q.Bit(0) == 1
	if up && b.Sign() > 0 {
		q.Add(q, big.NewInt(1))
	}
	if up && b.Sign() < 0 {
		q.Sub(q, big.NewInt(1))
	}
	return q
}

func power(n uint) *big.Int { return new(big.Int).Lsh(big.NewInt(1), n) }

func fits(x *big.Int) bool { return x.CmpAbs(power(58)) <= 0 }

// holds tells an answer that isn't want, or isn't ErrFit and 0 where want doesn't fit.
func holds(t *testing.T, what string, got int64, e api.Errno, want *big.Int, in ...int64) {
	t.Helper()
	if !fits(want) {
		if got != 0 || e != api.ErrFit {
			t.Errorf("%s%v: %d, %d; want ErrFit", what, in, got, e)
		}
		return
	}
	if e != api.OK || want.Cmp(big.NewInt(got)) != 0 {
		t.Errorf("%s%v: %d, %d; want %v", what, in, got, e, want)
	}
}

// calls are those of two numbers, with what they answer in whole numbers of any size.
func calls() map[string]struct {
	do   func(a, b int64) (int64, api.Errno)
	want func(a, b *big.Int) *big.Int
} {
	return map[string]struct {
		do   func(a, b int64) (int64, api.Errno)
		want func(a, b *big.Int) *big.Int
	}{
		"Add": {Add, func(a, b *big.Int) *big.Int { return new(big.Int).Add(a, b) }},
		"Sub": {Sub, func(a, b *big.Int) *big.Int { return new(big.Int).Sub(a, b) }},
		"Mul": {Mul, func(a, b *big.Int) *big.Int { return through(new(big.Int).Mul(a, b), power(40)) }},
		"Div": {Div, func(a, b *big.Int) *big.Int { return through(new(big.Int).Mul(a, power(40)), b) }},
	}
}

func TestExampleOfTheDocument(t *testing.T) {
	if x, e := Mul(3<<39, 3<<39); x != 9<<38 || e != api.OK {
		t.Error(x, e)
	}
}

func TestFits(t *testing.T) {
	for x, want := range map[int64]bool{
		0: true, 1: true, -1: true, most: true, -most: true, most - 1: true, 1 - most: true,
		most + 1: false, -most - 1: false, 2 * most: false, -2 * most: false, math.MaxInt64: false, math.MinInt64: false,
	} {
		if Fits(x) != want {
			t.Error(x)
		}
	}
}

// TestWrongNumbers: whichever of two doesn't fit is ErrArg, ahead of a divisor 0, and of what comes.
func TestWrongNumbers(t *testing.T) {
	for _, wrong := range []int64{most + 1, -most - 1, math.MaxInt64, math.MinInt64} {
		for _, other := range []int64{0, 1, -1, 1 << 40, most, -most, wrong, -wrong} {
			for name, c := range calls() {
				if x, e := c.do(wrong, other); x != 0 || e != api.ErrArg {
					t.Error(name, wrong, other, x, e)
				}
				if x, e := c.do(other, wrong); x != 0 || e != api.ErrArg {
					t.Error(name, other, wrong, x, e)
				}
			}
		}
	}
}

func TestDivisorZero(t *testing.T) {
	for _, a := range []int64{0, 1, -1, 1 << 40, most, -most} {
		if x, e := Div(a, 0); x != 0 || e != api.ErrZero {
			t.Error(a, x, e)
		}
	}
}

func TestTwoAtTheEdges(t *testing.T) {
	for _, c := range []struct {
		name    string
		a, b, x int64
		e       api.Errno
	}{
		{"Add", most, 0, most, api.OK},
		{"Add", most - 1, 1, most, api.OK},
		{"Add", most, 1, 0, api.ErrFit},
		{"Add", most, most, 0, api.ErrFit},
		{"Add", most, -most, 0, api.OK},
		{"Add", -most, -1, 0, api.ErrFit},
		{"Sub", 0, most, -most, api.OK},
		{"Sub", 0, -most, most, api.OK},
		{"Sub", 1 - most, 1, -most, api.OK},
		{"Sub", -most, 1, 0, api.ErrFit},
		{"Sub", most, -most, 0, api.ErrFit},
		{"Mul", 1, 1, 0, api.OK},
		{"Mul", 1 << 39, 1, 0, api.OK},
		{"Mul", 1<<39 + 1, 1, 1, api.OK},
		{"Mul", 1 << 39, 3, 2, api.OK},
		{"Mul", 1 << 39, 5, 2, api.OK},
		{"Mul", 1 << 39, -1, 0, api.OK},
		{"Mul", 1 << 39, -3, -2, api.OK},
		{"Mul", -1<<39 - 1, 1, -1, api.OK},
		{"Mul", most, 1 << 40, most, api.OK},
		{"Mul", -most, -1 << 40, most, api.OK},
		{"Mul", most, 1<<40 + 1, 0, api.ErrFit},
		{"Mul", most, -1<<40 - 1, 0, api.ErrFit},
		{"Mul", 1 << 49, 1 << 49, most, api.OK},
		{"Mul", -most, most, 0, api.ErrFit},
		{"Mul", 0, most, 0, api.OK},
		{"Div", 0, 1, 0, api.OK},
		{"Div", 1, 2 << 40, 0, api.OK},
		{"Div", 3, 2 << 40, 2, api.OK},
		{"Div", -3, 2 << 40, -2, api.OK},
		{"Div", 5, -2 << 40, -2, api.OK},
		{"Div", 1, 3, 366503875925, api.OK},
		{"Div", 2, 3, 733007751851, api.OK},
		{"Div", -2, 3, -733007751851, api.OK},
		{"Div", most, 1 << 40, most, api.OK},
		{"Div", most, -1 << 40, -most, api.OK},
		{"Div", most, 1<<40 - 1, 0, api.ErrFit},
		{"Div", 1 << 18, 1, most, api.OK},
		{"Div", 1<<18 + 1, 1, 0, api.ErrFit},
		{"Div", -1<<18 - 1, 1, 0, api.ErrFit},
		{"Div", most, 1, 0, api.ErrFit},
		{"Div", most, most, 1 << 40, api.OK},
	} {
		if x, e := calls()[c.name].do(c.a, c.b); x != c.x || e != c.e {
			t.Error(c, x, e)
		}
	}
}

func TestTwo(t *testing.T) {
	for name, c := range calls() {
		for _, a := range numbers() {
			for _, b := range numbers() {
				x, e := c.do(a, b)
				if !fits(big.NewInt(a)) || !fits(big.NewInt(b)) {
					if x != 0 || e != api.ErrArg {
						t.Error(name, a, b, x, e)
					}
				} else if name == "Div" && b == 0 {
					if x != 0 || e != api.ErrZero {
						t.Error(name, a, b, x, e)
					}
				} else {
					holds(t, name, x, e, c.want(big.NewInt(a), big.NewInt(b)), a, b)
				}
			}
		}
	}
}

func TestClamp(t *testing.T) {
	for _, c := range [][3]int64{
		{5, 3, 3}, {-5, 3, -3}, {2, 3, 2}, {-2, 3, -2}, {3, 3, 3}, {-3, 3, -3}, {4, 3, 3}, {-4, 3, -3},
		{5, 0, 0}, {-5, 0, 0}, {0, 0, 0}, {5, -1, 0}, {-5, -1, 0}, {0, -7, 0}, {-1, math.MinInt64, 0}, {math.MinInt64, math.MinInt64, 0},
		{math.MaxInt64, math.MaxInt64, math.MaxInt64}, {math.MinInt64, math.MaxInt64, -math.MaxInt64}, {math.MinInt64, 1, -1}, {math.MaxInt64, 1, 1},
		{most + 1, math.MaxInt64, most + 1},
	} {
		if x := Clamp(c[0], c[1]); x != c[2] {
			t.Error(c, x)
		}
	}
}

func TestOut(t *testing.T) {
	for x, want := range map[int64]int64{
		0: 0, 1: 0, 1 << 24: 1, -1 << 24: -1, 1 << 40: 1 << 16,
		1 << 23: 0, 1<<23 + 1: 1, 3 << 23: 2, 5 << 23: 2, 5<<23 + 1: 3,
		-1 << 23: 0, -1<<23 - 1: -1, -3 << 23: -2, -5 << 23: -2,
		most: 1 << 34, math.MaxInt64: 1 << 39, math.MinInt64: -1 << 39,
	} {
		if y := Out(x); y != want {
			t.Error(x, y)
		}
	}
	for _, x := range numbers() {
		if y := Out(x); through(big.NewInt(x), power(24)).Cmp(big.NewInt(y)) != 0 {
			t.Error(x, y)
		}
	}
}

func TestIn(t *testing.T) {
	for x, want := range map[int64]int64{0: 0, 1: 1 << 24, -1: -1 << 24, 1 << 16: 1 << 40, 1 << 34: most, -1 << 34: -most} {
		if y, e := In(x); y != want || e != api.OK {
			t.Error(x, y, e)
		}
	}
	for _, x := range []int64{1<<34 + 1, -1<<34 - 1, 1 << 39, 1 << 40, -1 << 40, 1<<62 + 1, math.MaxInt64, math.MinInt64} {
		if y, e := In(x); y != 0 || e != api.ErrFit {
			t.Error(x, y, e)
		}
	}
	for _, x := range numbers() {
		y, e := In(x)
		holds(t, "In", y, e, new(big.Int).Mul(big.NewInt(x), power(24)), x)
	}
}
