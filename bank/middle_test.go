package bank

import (
	"math"
	"slices"
	"testing"

	"aneroid/api"
)

// valid are channels that tell these altitudes.
func valid(alts ...int64) []api.Told {
	var l []api.Told
	for _, x := range alts {
		l = append(l, api.Told{Mode: api.Track, Valid: true, Alt: x})
	}
	return l
}

// ofMiddle holds the middle of a list against what is said of it: by size it stands behind as many valid ones as before, or behind one less.
func ofMiddle(t *testing.T, l []api.Told) {
	t.Helper()
	kept := slices.Clone(l)
	m, ok := Middle(l)
	if !slices.Equal(l, kept) {
		t.Fatal("changed", l, kept)
	}
	all, below, same := 0, 0, 0
	for _, x := range l {
		if x.Valid {
			all++
			if x.Alt < m {
				below++
			}
			if x.Alt == m {
				same++
			}
		}
	}
	if all == 0 {
		if ok || m != 0 {
			t.Fatal(l, m, ok)
		}
		return
	}
	// The place of the middle one, counted from 1 on.
	place := (all + 1) / 2
	if !ok || below >= place || below+same < place {
		t.Fatal(l, m, ok)
	}
}

func TestExampleOfTheDocument(t *testing.T) {
	if m, ok := Middle(valid(5, 1, 9, 7)); m != 5 || !ok {
		t.Error(m, ok)
	}
}

func TestMiddleWrittenOut(t *testing.T) {
	for _, x := range []struct {
		alts []int64
		want int64
	}{
		{[]int64{0}, 0},
		{[]int64{-3}, -3},
		{[]int64{2, 1}, 1},
		{[]int64{1, 2}, 1},
		{[]int64{-1, -2}, -2},
		{[]int64{3, 1, 2}, 2},
		{[]int64{4, 4, 4, 5, 5, 5}, 4},
		{[]int64{5, 4, 5, 4, 5}, 5},
		{[]int64{math.MaxInt64, math.MinInt64}, math.MinInt64},
		{[]int64{math.MaxInt64, math.MinInt64, 0}, 0},
		{[]int64{math.MaxInt64, math.MinInt64, math.MaxInt64, -1}, -1},
		{[]int64{1 << 32, 2, 1 << 33}, 1 << 32},
		{[]int64{math.MaxInt64, math.MaxInt64}, math.MaxInt64},
	} {
		if m, ok := Middle(valid(x.alts...)); m != x.want || !ok {
			t.Error(x, m, ok)
		}
	}
}

// TestMiddleOfValidOnes: what isn't valid doesn't count, whatever else it tells.
func TestMiddleOfValidOnes(t *testing.T) {
	others := []api.Told{{Alt: -100}, {Mode: api.Track, Alt: -100}, {Mode: api.Coast, Accepted: true, Held: true, Ground: true, Refused: true, Alt: 100, Speed: 1, Bias: 1}}
	for _, l := range [][]api.Told{nil, {}, others} {
		if m, ok := Middle(l); m != 0 || ok {
			t.Error(l, m, ok)
		}
	}
	for _, mode := range []int{api.Init, api.Track, api.Coast, api.Lost, -1, 9} {
		for _, x := range [][]api.Told{others, slices.Repeat(others, 5)} {
			l := append(slices.Clone(x), api.Told{Mode: mode, Valid: true, Alt: 7}, api.Told{Mode: mode, Valid: true, Alt: 9})
			if m, ok := Middle(append(l, x...)); m != 7 || !ok {
				t.Error(mode, l, m, ok)
			}
		}
	}
}

// TestMiddleOfAltitudes: it is that of altitudes, not of speeds or biases.
func TestMiddleOfAltitudes(t *testing.T) {
	l := []api.Told{
		{Valid: true, Alt: 3, Speed: 1, Bias: 2},
		{Valid: true, Alt: 1, Speed: 2, Bias: 3},
		{Valid: true, Alt: 2, Speed: 3, Bias: 1},
	}
	if m, ok := Middle(l); m != 2 || !ok {
		t.Error(m, ok)
	}
}

// TestMiddleOfEvery: every row of up to six of small altitudes, some not valid, in every order.
func TestMiddleOfEvery(t *testing.T) {
	alphabet := append(valid(-1, 0, 1), api.Told{Alt: 1})
	var rows func(l []api.Told, n int)
	rows = func(l []api.Told, n int) {
		ofMiddle(t, l)
		if n == 0 {
			return
		}
		for _, x := range alphabet {
			rows(append(slices.Clone(l), x), n-1)
		}
	}
	rows(nil, 6)
}

// TestMiddleOfDrawn: drawn rows of any length, with altitudes of all sizes.
func TestMiddleOfDrawn(t *testing.T) {
	draw := draws(1)
	for n := range 400 {
		l := make([]api.Told, n)
		for i := range l {
			l[i] = api.Told{Valid: draw(3) != 0, Alt: (draw(1<<31)<<33 + draw(1<<31)) >> draw(63)}
			if draw(2) == 0 {
				l[i].Alt = -l[i].Alt
			}
		}
		ofMiddle(t, l)
	}
}
