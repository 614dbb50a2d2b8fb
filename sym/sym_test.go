package sym

import (
	"math"
	"math/big"
	"testing"

	"aneroid/api"
)

const most = int64(1) << 58

// entries are where the entry of a row and a column stands, as the document lists them.
var entries = map[[2]int]int{
	{0, 0}: 0, {0, 1}: 1, {0, 2}: 2, {1, 1}: 3, {1, 2}: 4, {2, 2}: 5,
	{1, 0}: 1, {2, 0}: 2, {2, 1}: 4,
}

// pairs are the entries beside the diagonal, by what they stand between.
var pairs = [3][2]int{{0, 1}, {0, 2}, {1, 2}}

// wrong are numbers that don't fit.
func wrong() []int64 {
	return []int64{most + 1, -most - 1, 2 * most, -2 * most, math.MaxInt64, math.MinInt64, math.MinInt64 + 1}
}

// outside are numbers that no row or column has.
func outside() []int {
	return []int{-1, -2, -3, 3, 4, 5, 6, 9, 1 << 8, 1 << 32, 1<<32 + 1, -1 << 32, math.MaxInt, math.MinInt}
}

// numbers tells one number of a fixed row behind the other, each without a sign bit.
func numbers() func() uint64 {
	x := uint64(5)
	return func() uint64 {
		x = x*6364136223846793005 + 1442695040888963407
		return x >> 1
	}
}

// matrices are of numbers of all sizes; of some an entry is an edge or doesn't fit.
func matrices(n int) []api.Sym {
	next := numbers()
	edges := append(wrong(), most, -most, most-1, 1-most, most/2, most/2+1, -most/2-1, 0, 1, -1)
	l := make([]api.Sym, n)
	for k := range l {
		for place := range l[k] {
			l[k][place] = int64(next()<<1) >> (5 + next()>>20%56)
		}
		if k%2 == 0 {
			l[k][next()>>20%6] = edges[next()>>20%uint64(len(edges))]
		}
	}
	return l
}

func allFit(m api.Sym) bool {
	for _, x := range m {
		if big.NewInt(x).CmpAbs(big.NewInt(most)) > 0 {
			return false
		}
	}
	return true
}

// placed is other at all places but one, where x stands.
func placed(other int64, place int, x int64) api.Sym {
	m := api.Sym{other, other, other, other, other, other}
	m[place] = x
	return m
}

// over is how far x is above a floor, in whole numbers of any size.
func over(x, floor int64) *big.Int { return new(big.Int).Sub(big.NewInt(x), big.NewInt(floor)) }

// widest is the greatest entry that may stand between two diagonal entries over their floors, or 2^59, if that is less.
func widest(x, y, floorX, floorY int64) int64 {
	root := new(big.Int).Mul(over(x, floorX), over(y, floorY))
	root.Sqrt(root)
	if root.Cmp(big.NewInt(2*most)) > 0 {
		return 2 * most
	}
	return root.Int64()
}

// sound is Sound in whole numbers of any size.
func sound(m api.Sym, floor api.Vec) bool {
	diagonal := [3]int64{m[0], m[3], m[5]}
	for i, x := range diagonal {
		if x < floor[i] {
			return false
		}
	}
	for _, p := range pairs {
		i, j := p[0], p[1]
		x := big.NewInt(m[entries[p]])
		if x.Mul(x, x).Cmp(new(big.Int).Mul(over(diagonal[i], floor[i]), over(diagonal[j], floor[j]))) > 0 {
			return false
		}
	}
	return allFit(m)
}

func TestExampleOfTheDocument(t *testing.T) {
	if row, e := Row(api.Sym{1, 2, 3, 4, 5, 6}, 1); row != (api.Vec{2, 4, 5}) || e != api.OK {
		t.Error(row, e)
	}
}

// TestAt: each entry, of a row and a column and the other way; of any whole numbers.
func TestAt(t *testing.T) {
	for _, m := range append(matrices(40), api.Sym{1, 2, 3, 4, 5, 6}, api.Sym{math.MinInt64, -1, math.MaxInt64, most + 1, -most - 1, 0}) {
		for p, place := range entries {
			if x, e := At(m, p[0], p[1]); x != m[place] || e != api.OK {
				t.Error(m, p, x, e)
			}
		}
	}
}

// TestPut: one entry is another one, of any whole numbers; all others stay, and so does what was handed in.
func TestPut(t *testing.T) {
	for p, place := range entries {
		for _, x := range append(wrong(), 0, 9, -9, most, -most) {
			m := api.Sym{1, 2, 3, 4, 5, math.MinInt64}
			want := m
			want[place] = x
			got, e := Put(m, p[0], p[1], x)
			if got != want || e != api.OK {
				t.Error(p, x, got, e)
			}
			if m != (api.Sym{1, 2, 3, 4, 5, math.MinInt64}) {
				t.Error(p, x, "handed in", m)
			}
			there, _ := At(got, p[0], p[1])
			turned, _ := At(got, p[1], p[0])
			if there != x || turned != x {
				t.Error(p, x, there, turned)
			}
		}
	}
}

func TestRow(t *testing.T) {
	for _, m := range append(matrices(40), api.Sym{1, 2, 3, 4, 5, 6}) {
		for i, want := range [3]api.Vec{{m[0], m[1], m[2]}, {m[1], m[3], m[4]}, {m[2], m[4], m[5]}} {
			if row, e := Row(m, i); row != want || e != api.OK {
				t.Error(m, i, row, e)
			}
		}
	}
}

// TestOutside: a row or a column that isn't there is ErrRange, and zeros, whatever the other one is.
func TestOutside(t *testing.T) {
	m := api.Sym{1, 2, 3, 4, 5, 6}
	for _, i := range outside() {
		for _, j := range append(outside(), 0, 1, 2) {
			for _, p := range [][2]int{{i, j}, {j, i}} {
				if x, e := At(m, p[0], p[1]); x != 0 || e != api.ErrRange {
					t.Error("At", p, x, e)
				}
				if n, e := Put(m, p[0], p[1], 7); n != (api.Sym{}) || e != api.ErrRange {
					t.Error("Put", p, n, e)
				}
			}
		}
		if row, e := Row(m, i); row != (api.Vec{}) || e != api.ErrRange {
			t.Error("Row", i, row, e)
		}
	}
}

// TestDiagonal: both ways, of any whole numbers.
func TestDiagonal(t *testing.T) {
	for _, d := range []api.Vec{{}, {7, 8, 9}, {-7, 0, 1}, {math.MinInt64, math.MaxInt64, most + 1}} {
		m := Diag(d)
		if m != (api.Sym{d[0], 0, 0, d[1], 0, d[2]}) {
			t.Error(d, m)
		}
		if back := Main(m); back != d {
			t.Error(d, back)
		}
	}
	for _, m := range append(matrices(40), api.Sym{1, 2, 3, 4, 5, 6}) {
		if d := Main(m); d != (api.Vec{m[0], m[3], m[5]}) {
			t.Error(m, d)
		}
	}
}

func TestAdd(t *testing.T) {
	l := matrices(4000)
	for k := range len(l) / 2 {
		a, b := l[2*k], l[2*k+1]
		sum, e := Add(a, b)
		if !allFit(a) || !allFit(b) {
			if sum != (api.Sym{}) || e != api.ErrArg {
				t.Error(a, b, sum, e)
			}
			continue
		}
		var want api.Sym
		for place := range want {
			want[place] = a[place] + b[place]
		}
		if !allFit(want) {
			if sum != (api.Sym{}) || e != api.ErrFit {
				t.Error(a, b, sum, e)
			}
		} else if sum != want || e != api.OK {
			t.Error(a, b, sum, e)
		}
	}
}

// TestAddEdges: one sum at the edge, and one beyond it, at each place.
func TestAddEdges(t *testing.T) {
	for place := range 6 {
		for _, sign := range []int64{1, -1} {
			if sum, e := Add(placed(5, place, sign*(most-1)), placed(7, place, sign)); sum != placed(12, place, sign*most) || e != api.OK {
				t.Error(place, sum, e)
			}
			if sum, e := Add(placed(5, place, sign*most), placed(7, place, -sign*most)); sum != placed(12, place, 0) || e != api.OK {
				t.Error(place, sum, e)
			}
			for _, more := range []int64{sign, sign * most} {
				if sum, e := Add(placed(5, place, sign*most), placed(7, place, more)); sum != (api.Sym{}) || e != api.ErrFit {
					t.Error(place, more, sum, e)
				}
			}
		}
	}
}

// TestAddWrong: one entry that doesn't fit, in either matrix, is ErrArg, ahead of sums that don't fit.
func TestAddWrong(t *testing.T) {
	for place := range 6 {
		for _, x := range wrong() {
			for _, other := range []int64{0, 1, most, -most} {
				bad, good := placed(other, place, x), placed(other, place, 0)
				for _, two := range [][2]api.Sym{{bad, good}, {good, bad}, {bad, bad}, {bad, {}}, {{}, bad}, {bad, placed(0, place, -x)}} {
					if sum, e := Add(two[0], two[1]); sum != (api.Sym{}) || e != api.ErrArg {
						t.Error(two, sum, e)
					}
				}
			}
		}
	}
}

func TestSound(t *testing.T) {
	for i, c := range []struct {
		m     api.Sym
		floor api.Vec
		want  bool
	}{
		{api.Sym{}, api.Vec{}, true},
		{api.Sym{9, 6, 3, 4, 2, 1}, api.Vec{}, true},
		{api.Sym{9, -6, 3, 4, -2, 1}, api.Vec{}, true},
		{api.Sym{9, 7, 3, 4, 2, 1}, api.Vec{}, false},
		{api.Sym{9, -7, 3, 4, 2, 1}, api.Vec{}, false},
		{api.Sym{9, 6, 4, 4, 2, 1}, api.Vec{}, false},
		{api.Sym{9, 6, -4, 4, 2, 1}, api.Vec{}, false},
		{api.Sym{9, 6, 3, 4, 3, 1}, api.Vec{}, false},
		{api.Sym{9, 6, 3, 4, -3, 1}, api.Vec{}, false},
		{api.Sym{10, 6, 3, 6, 2, 4}, api.Vec{1, 2, 3}, true},
		{api.Sym{10, 6, 3, 6, 2, 4}, api.Vec{2, 2, 3}, false},
		{api.Sym{10, 6, 3, 6, 2, 4}, api.Vec{1, 3, 3}, false},
		{api.Sym{10, 6, 3, 6, 2, 4}, api.Vec{1, 2, 4}, false},
		{api.Sym{5, 0, 0, 5, 0, 5}, api.Vec{5, 5, 5}, true},
		{api.Sym{5, 0, 0, 5, 0, 5}, api.Vec{6, 5, 5}, false},
		{api.Sym{5, 0, 0, 5, 0, 5}, api.Vec{5, 6, 5}, false},
		{api.Sym{5, 0, 0, 5, 0, 5}, api.Vec{5, 5, 6}, false},
		{api.Sym{5, 0, 0, 5, 0, 5}, api.Vec{5, 5, math.MaxInt64}, false},
		{api.Sym{5, 1, 0, 5, 0, 5}, api.Vec{5, 0, 0}, false},
		{api.Sym{-1, 0, 0, 0, 0, 0}, api.Vec{}, false},
		{api.Sym{-3, 2, 2, -4, 2, -5}, api.Vec{-5, -6, -7}, true},
		{api.Sym{-3, 2, 2, -4, 3, -5}, api.Vec{-5, -6, -7}, false},
		// Two that are both below the floor have a product above 0, too.
		{api.Sym{-2, 1, 0, -2, 0, 0}, api.Vec{}, false},
		{api.Sym{most, most, most, most, most, most}, api.Vec{}, true},
		{api.Sym{most, most, most, most, most, most}, api.Vec{1, 0, 0}, false},
		{api.Sym{most, -most, most, most, -most, most}, api.Vec{-1, -1, -1}, true},
		{api.Sym{-most, 0, 0, -most, 0, -most}, api.Vec{-most, -most, -most}, true},
		{api.Sym{-most, 0, 0, -most, 0, -most}, api.Vec{math.MinInt64, math.MinInt64, math.MinInt64}, true},
		{api.Sym{most, -most, most, most, most, most}, api.Vec{math.MinInt64, math.MinInt64, math.MinInt64}, true},
	} {
		if got := Sound(c.m, c.floor); got != c.want {
			t.Error(i, c, got)
		}
	}
}

// TestSoundFits: a matrix with one entry that doesn't fit isn't sound, however low the floor is.
func TestSoundFits(t *testing.T) {
	low := api.Vec{math.MinInt64, math.MinInt64, math.MinInt64}
	for place := range 6 {
		for _, x := range wrong() {
			if m := placed(0, place, x); Sound(m, low) || Sound(m, api.Vec{}) {
				t.Error(m)
			}
		}
		for _, x := range []int64{most, -most} {
			if m := placed(0, place, x); !Sound(m, low) {
				t.Error(m)
			}
		}
	}
}

// TestSoundWidest: the widest entry that may be between two is sound, and the next one isn't, at each place, with floors down to the lowest.
func TestSoundWidest(t *testing.T) {
	floors := []int64{math.MinInt64, math.MinInt64 + 1, math.MinInt64 + most, -most - 1, -most, -1, 0, 1, 3, most - 1, most}
	diagonals := []int64{-most, -most + 1, -2, -1, 0, 1, 2, 4, 1 << 31, 1 << 57, most - 1, most}
	for _, p := range pairs {
		i, j := p[0], p[1]
		third := 3 - i - j
		for _, floorI := range floors {
			for _, floorJ := range floors {
				for _, x := range diagonals {
					for _, y := range diagonals {
						if x < floorI || y < floorJ {
							continue
						}
						var d, floor api.Vec
						d[i], d[j], d[third] = x, y, 5
						floor[i], floor[j], floor[third] = floorI, floorJ, 5
						holdsWidest(t, Diag(d), floor, entries[p], widest(x, y, floorI, floorJ))
					}
				}
			}
		}
	}
}

// holdsWidest tells where an entry at a place isn't sound up to w from 0, or is sound beyond it.
func holdsWidest(t *testing.T, m api.Sym, floor api.Vec, place int, w int64) {
	t.Helper()
	for _, x := range []int64{0, w - 1, w, w + 1, -w, -w - 1, most, -most} {
		m[place] = x
		may := x >= -w && x <= w && x >= -most && x <= most
		if Sound(m, floor) != may {
			t.Error(m, floor, w, "want", may)
		}
	}
}

// TestSoundOfAnySize holds Sound against whole numbers of any size, where about one half is sound.
func TestSoundOfAnySize(t *testing.T) {
	next := numbers()
	yes, no := 0, 0
	for range 20000 {
		var floor, d api.Vec
		for i := range d {
			d[i] = int64(next()<<1) >> (5 + next()>>20%40)
			floor[i] = d[i] - int64(next()>>(1+next()>>20%62))
			if next()>>20%16 == 0 {
				floor[i] = d[i] + 1
			}
		}
		m := Diag(d)
		for _, p := range pairs {
			i, j := p[0], p[1]
			if d[i] < floor[i] || d[j] < floor[j] {
				continue
			}
			w := widest(d[i], d[j], floor[i], floor[j])
			x := w - 3 + int64(next()>>20%5)
			if next()>>20%2 == 0 {
				x = -x
			}
			m[entries[p]] = min(max(x, -most), most)
		}
		want := sound(m, floor)
		if Sound(m, floor) != want {
			t.Error(m, floor, "want", want)
		}
		if want {
			yes++
		} else {
			no++
		}
	}
	if yes < 4000 || no < 4000 {
		t.Error("too few of one kind", yes, no)
	}
}

// TestHandedIn: matrices that are handed in stay as they are, and an answer is one of its own.
func TestHandedIn(t *testing.T) {
	a, b, floor := api.Sym{4, 1, 1, 4, 1, 4}, api.Sym{1, 2, 3, 4, 5, 6}, api.Vec{1, 2, 3}
	sum, _ := Add(a, b)
	row, _ := Row(a, 0)
	d := Main(a)
	Sound(a, floor)
	sum[0], row[0], d[0] = 99, 99, 99
	if a != (api.Sym{4, 1, 1, 4, 1, 4}) || b != (api.Sym{1, 2, 3, 4, 5, 6}) || floor != (api.Vec{1, 2, 3}) {
		t.Error(a, b, floor)
	}
	again, _ := Add(a, b)
	if row, _ := Row(a, 0); again != (api.Sym{5, 3, 4, 8, 6, 10}) || row != (api.Vec{4, 1, 1}) || Main(a) != (api.Vec{4, 4, 4}) {
		t.Error(again, row)
	}
}
