package tame

import (
	"math"
	"math/big"
	"testing"

	"aneroid/api"
	"aneroid/sym"
)

const most = int64(1) << 58

// onMain are the places of the diagonal's entries; beside are those of the others, each with its row and column.
var (
	onMain = [3]int{0, 3, 5}
	beside = [3][3]int{{1, 0, 1}, {2, 0, 2}, {4, 1, 2}}
)

// edges are numbers of a doubt: those that fit, up to the last one, and others.
func edges() []int64 {
	l := []int64{0, most, -most, most - 1, 1 - most, most + 1, -most - 1, math.MaxInt64, math.MinInt64, math.MinInt64 + 1}
	for _, n := range []int{0, 1, 2, 3, 8, 20, 28, 29, 30, 31, 32, 40, 57, 60} {
		p := int64(1) << n
		l = append(l, p, -p, p+1, -p-1, p-1, 1-p)
	}
	return l
}

// draw hands out a fixed row of numbers in all sizes, edges among them.
func draw() func() int64 {
	l := edges()
	x := uint64(29)
	next := func() uint64 {
		x = x*6364136223846793005 + 1442695040888963407
		return x >> 1
	}
	return func() int64 {
		if next()>>20%4 == 0 {
			return l[next()>>20%uint64(len(l))]
		}
		return int64(next()<<1) >> (next() >> 20 % 64)
	}
}

// drawBounds hands out floors and ceilings that may be.
func drawBounds(next func() int64) (floor, ceil api.Vec) {
	for i := range floor {
		a, b := next()&(most-1), next()&(most-1)
		floor[i], ceil[i] = min(a, b), max(a, b)
		switch next() & 7 {
		case 0:
			floor[i] = 0
		case 1:
			ceil[i] = most
		case 2:
			ceil[i] = floor[i]
		}
	}
	return floor, ceil
}

// squareFits tells whether the square of x isn't above a times b, in whole numbers of any size.
func squareFits(x, a, b *big.Int) bool {
	return new(big.Int).Mul(x, x).Cmp(new(big.Int).Mul(a, b)) <= 0
}

// wanted is what Tame has to answer, in whole numbers of any size.
func wanted(p api.Sym, floor, ceil api.Vec) (api.Sym, api.Errno) {
	for i := range floor {
		if floor[i] < 0 || floor[i] > ceil[i] || ceil[i] > most {
			return api.Sym{}, api.ErrArg
		}
	}
	var over [3]*big.Int
	for i, place := range onMain {
		if p[place] < floor[i] {
			p[place] = floor[i]
		}
		if p[place] > ceil[i] {
			p[place] = ceil[i]
		}
		over[i] = big.NewInt(p[place] - floor[i])
	}
	for _, c := range beside {
		x := big.NewInt(p[c[0]])
		if squareFits(x, over[c[1]], over[c[2]]) {
			continue
		}
		bound := new(big.Int).Mul(over[c[1]], over[c[2]])
		bound.Sqrt(bound)
		if x.Sign() < 0 {
			bound.Neg(bound)
		}
		p[c[0]] = bound.Int64()
	}
	return p, api.OK
}

// holds tells an answer of Tame or Is that isn't as wanted, and one that isn't sound or doesn't stay.
func holds(t *testing.T, p api.Sym, floor, ceil api.Vec) api.Sym {
	t.Helper()
	got, e := Tame(p, floor, ceil)
	want, ee := wanted(p, floor, ceil)
	if got != want || e != ee {
		t.Error(p, floor, ceil, got, e, "want", want, ee)
	}
	if Is(p, floor, ceil) != (ee == api.OK && want == p) {
		t.Error(p, floor, ceil, Is(p, floor, ceil))
	}
	if May(floor, ceil) != (ee == api.OK) {
		t.Error(floor, ceil, May(floor, ceil))
	}
	if e != api.OK {
		return got
	}
	again, e := Tame(got, floor, ceil)
	if again != got || e != api.OK || !Is(got, floor, ceil) {
		t.Error(p, floor, ceil, got, "doesn't stay", again, e)
	}
	if !sym.Sound(got, floor) {
		t.Error(p, floor, ceil, got, "isn't sound")
	}
	return got
}

func TestExampleOfTheDocument(t *testing.T) {
	floor, ceil := api.Vec{1, 1, 1}, api.Vec{9, 9, 9}
	p, e := Tame(api.Sym{20, 50, 0, 5, 0, 5}, floor, ceil)
	if p != (api.Sym{9, 5, 0, 5, 0, 5}) || e != api.OK {
		t.Error(p, e)
	}
}

func TestMay(t *testing.T) {
	for i := range 3 {
		for _, c := range []struct {
			floor, ceil int64
			may         bool
		}{
			{0, 0, true}, {0, 1, true}, {1, 1, true}, {2, 1, false}, {1, 0, false},
			{-1, 1, false}, {-1, -1, false}, {-1, 0, false}, {0, -1, false}, {-2, -1, false},
			{0, most, true}, {most, most, true}, {most - 1, most, true}, {most, most - 1, false},
			{0, most + 1, false}, {most + 1, most + 1, false}, {most + 1, most, false},
			{0, math.MaxInt64, false}, {math.MaxInt64, math.MaxInt64, false},
			{math.MinInt64, 0, false}, {math.MinInt64, math.MinInt64, false}, {math.MinInt64, math.MaxInt64, false}, {0, math.MinInt64, false},
		} {
			for _, other := range []int64{0, 7, most} {
				floor, ceil := api.Vec{other, other, other}, api.Vec{other, other, other}
				floor[i], ceil[i] = c.floor, c.ceil
				if May(floor, ceil) != c.may {
					t.Error(floor, ceil, !c.may)
				}
				holds(t, api.Sym{}, floor, ceil)
				holds(t, api.Sym{9, -9, 9, 9, -9, 9}, floor, ceil)
			}
		}
	}
}

// TestWrong: bounds that may not be are ErrArg of whatever doubt, and no doubt is tame between them.
func TestWrong(t *testing.T) {
	next := draw()
	for range 300 {
		p := api.Sym{next(), next(), next(), next(), next(), next()}
		for _, b := range [][2]api.Vec{
			{{-1, 0, 0}, {9, 9, 9}}, {{0, -1, 0}, {9, 9, 9}}, {{0, 0, -1}, {9, 9, 9}},
			{{5, 0, 0}, {4, 9, 9}}, {{0, 5, 0}, {9, 4, 9}}, {{0, 0, 5}, {9, 9, 4}},
			{{}, {most + 1, 9, 9}}, {{}, {9, most + 1, 9}}, {{}, {9, 9, most + 1}},
		} {
			for _, q := range []api.Sym{p, {}, {5, 0, 0, 5, 0, 5}} {
				if got, e := Tame(q, b[0], b[1]); got != (api.Sym{}) || e != api.ErrArg || Is(q, b[0], b[1]) {
					t.Error(q, b, got, e)
				}
			}
		}
	}
}

// TestDiagonal: each diagonal entry has the bounds of its own place.
func TestDiagonal(t *testing.T) {
	floor, ceil := api.Vec{10, 200, 3000}, api.Vec{20, 400, most}
	for i, place := range onMain {
		for _, x := range append(edges(), 9, 10, 11, 19, 20, 21, 199, 200, 201, 399, 400, 401, 2999, 3000, 3001) {
			p := api.Sym{0: 15, 3: 300, 5: 4000}
			p[place] = x
			want := p
			want[place] = max(min(x, ceil[i]), floor[i])
			if got := holds(t, p, floor, ceil); got != want {
				t.Error(p, got, "want", want)
			}
		}
	}
}

// TestBeside: each entry beside the diagonal is bounded by the mean of its own two, up to the last one that stays.
func TestBeside(t *testing.T) {
	floor, ceil := api.Vec{1, 2, 3}, api.Vec{most, most, most}
	main := api.Sym{0: 1 + 3, 3: 2 + 12, 5: 3 + 50}
	for k, c := range beside {
		bound := []int64{6, 12, 24}[k]
		for _, x := range []int64{0, 1, bound - 1, bound, bound + 1, 99, most, most + 1, math.MaxInt64, math.MinInt64} {
			for _, sign := range []int64{1, -1} {
				p := main
				p[c[0]] = sign * x
				want := p
				want[c[0]] = max(min(p[c[0]], bound), -bound)
				if got := holds(t, p, floor, ceil); got != want {
					t.Error(p, got, "want", want)
				}
			}
		}
	}
}

// TestDiagonalFirst: the others' bounds are those of the diagonal as it has become, not as it was.
func TestDiagonalFirst(t *testing.T) {
	floor, ceil := api.Vec{1, 1, 1}, api.Vec{10, 17, 26}
	for _, c := range [][2]api.Sym{
		{{100, 99, 99, 100, 99, 100}, {10, 12, 15, 17, 20, 26}},
		{{math.MaxInt64, -99, -99, math.MaxInt64, -99, math.MaxInt64}, {10, -12, -15, 17, -20, 26}},
		{{10, 99, 99, 100, 99, 26}, {10, 12, 15, 17, 20, 26}},
		{{0, 99, 99, 100, 99, 100}, {1, 0, 0, 17, 20, 26}},
		{{-50, 99, 99, -50, 99, 100}, {1, 0, 0, 1, 0, 26}},
		{{math.MinInt64, 1, 1, 10, -99, math.MinInt64}, {1, 0, 0, 10, 0, 1}},
		{{1, 1, 1, 1, 1, 1}, {1, 0, 0, 1, 0, 1}},
		{{2, 1, 1, 2, 1, 2}, {2, 1, 1, 2, 1, 2}},
		{{2, 2, 2, 2, 2, 2}, {2, 1, 1, 2, 1, 2}},
	} {
		if got := holds(t, c[0], floor, ceil); got != c[1] {
			t.Error(c[0], got, "want", c[1])
		}
	}
}

// TestAtTheEdge: the greatest bounds that may be, no room between them, and the greatest numbers of a doubt.
func TestAtTheEdge(t *testing.T) {
	top, none := api.Vec{most, most, most}, api.Vec{}
	high, low := int64(math.MaxInt64), int64(math.MinInt64)
	for _, c := range []struct {
		p           api.Sym
		floor, ceil api.Vec
		want        api.Sym
	}{
		{api.Sym{high, high, high, high, high, high}, none, top, api.Sym{most, most, most, most, most, most}},
		{api.Sym{high, low, low, high, low, high}, none, top, api.Sym{most, -most, -most, most, -most, most}},
		{api.Sym{high, high, high, high, high, high}, top, top, api.Sym{most, 0, 0, most, 0, most}},
		{api.Sym{low, low, low, low, low, low}, none, top, api.Sym{}},
		{api.Sym{low, low, low, low, low, low}, top, top, api.Sym{most, 0, 0, most, 0, most}},
		{api.Sym{high, high, low, high, low, high}, none, none, api.Sym{}},
		{api.Sym{high, low, high, 1, 1 << 29, 0}, none, top, api.Sym{most, -1 << 29, 0, 1, 0, 0}},
		{api.Sym{most, most, -most, most, -most, most}, none, top, api.Sym{most, most, -most, most, -most, most}},
		{api.Sym{most, most, -most, most, -most, most}, api.Vec{1, 1, 1}, top, api.Sym{most, most - 1, 1 - most, most, 1 - most, most}},
	} {
		if got := holds(t, c.p, c.floor, c.ceil); got != c.want {
			t.Error(c.p, c.floor, c.ceil, got, "want", c.want)
		}
	}
}

func TestTame(t *testing.T) {
	next := draw()
	for range 20000 {
		p := api.Sym{next(), next(), next(), next(), next(), next()}
		holds(t, p, api.Vec{next(), next(), next()}, api.Vec{next(), next(), next()})
		floor, ceil := drawBounds(next)
		holds(t, p, floor, ceil)
		for i, place := range onMain {
			// A diagonal that is within its bounds leaves room beside it.
			p[place] = floor[i] + next()&math.MaxInt64%(ceil[i]-floor[i]+1)
		}
		holds(t, p, floor, ceil)
	}
}

// TestSoundStays: a matrix that is sound, and not above the ceiling, is tame; one that isn't sound, or is above it, isn't.
func TestSoundStays(t *testing.T) {
	next := draw()
	sound := 0
	for range 20000 {
		floor, ceil := drawBounds(next)
		p, _ := Tame(api.Sym{next(), next(), next(), next(), next(), next()}, floor, ceil)
		for place := range p {
			// Near the bounds: one up, one down, or as it is.
			p[place] += next()%3 - 1
		}
		above := p[0] > ceil[0] || p[3] > ceil[1] || p[5] > ceil[2]
		within := sym.Sound(p, floor) && !above
		if within {
			sound++
		}
		if Is(p, floor, ceil) != within {
			t.Error(p, floor, ceil, within)
		}
		if got := holds(t, p, floor, ceil); within && got != p {
			t.Error(p, floor, ceil, got)
		}
	}
	if sound < 500 {
		t.Error("too few sound ones", sound)
	}
}

// TestHandedIn: what is handed in stays as it is, and an answer is one of its own.
func TestHandedIn(t *testing.T) {
	p, floor, ceil := api.Sym{20, 50, 0, 5, 0, 5}, api.Vec{1, 1, 1}, api.Vec{9, 9, 9}
	got, _ := Tame(p, floor, ceil)
	got[0] = 99
	Is(p, floor, ceil)
	May(floor, ceil)
	if p != (api.Sym{20, 50, 0, 5, 0, 5}) || floor != (api.Vec{1, 1, 1}) || ceil != (api.Vec{9, 9, 9}) {
		t.Error(p, floor, ceil)
	}
	if again, _ := Tame(p, floor, ceil); again != (api.Sym{9, 5, 0, 5, 0, 5}) {
		t.Error(again)
	}
}
