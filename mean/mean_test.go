package mean

import (
	"math"
	"math/big"
	"slices"
	"testing"

	"aneroid/api"
)

// good is what the document says of a count, with its numbers.
func good(count int64) bool { return 90528 <= count && count <= 430515 }

// wanted is the mean that the document asks for, by whole numbers of any size, rounded down.
func wanted(l []int64) (int64, api.Errno) {
	if len(l) == 0 {
		return 0, api.ErrZero
	}
	if !allGood(l) {
		return 0, api.ErrRange
	}
	sum := new(big.Int)
	for _, count := range l {
		sum.Add(sum, big.NewInt(count))
	}
	return new(big.Int).Div(sum, big.NewInt(int64(len(l)))).Int64(), api.OK
}

func allGood(l []int64) bool {
	for _, count := range l {
		if !good(count) {
			return false
		}
	}
	return true
}

// pile is a heap that keeps all it was told, to hold a heap against.
type pile struct{ counts []int64 }

func (p *pile) add(count int64) (bool, api.Errno) {
	switch {
	case !good(count):
		return false, api.ErrRange
	case len(p.counts) == 16:
		return false, api.ErrFull
	}
	p.counts = append(p.counts, count)
	return len(p.counts) == 16, api.OK
}

// same asks a heap for all that it tells, twice, as asking changes nothing.
func same(t *testing.T, h *Heap, p *pile) {
	t.Helper()
	m, e := wanted(p.counts)
	for range 2 {
		if h.Len() != len(p.counts) {
			t.Fatal(p.counts, "has", h.Len())
		}
		if got, f := h.Mean(); got != m || f != e {
			t.Fatal(p.counts, got, f, "want", m, e)
		}
	}
}

// clearing is a step that clears, in place of a count; it isn't good.
const clearing = math.MinInt64 + 7

// step does one step to both, and holds what they tell against each other.
func step(t *testing.T, h *Heap, p *pile, count int64) {
	t.Helper()
	if count == clearing {
		h.Clear()
		p.counts = nil
	} else {
		full, e := h.Add(count)
		if f, g := p.add(count); full != f || e != g {
			t.Fatal(p.counts, count, full, e, "want", f, g)
		}
	}
	same(t, h, p)
}

// filled are a heap and a pile with n counts.
func filled(t *testing.T, n int) (*Heap, *pile) {
	h, p := New(), &pile{}
	for i := range n {
		step(t, h, p, 90528+int64(i*i*101))
	}
	return h, p
}

// draws are numbers that are the same each time.
func draws(seed uint64) func(n int64) int64 {
	return func(n int64) int64 {
		seed = seed*6364136223846793005 + 1442695040888963407
		return int64(seed>>33) % n
	}
}

// wrong are counts that aren't good, some of them only in 32 bits.
var wrong = []int64{
	90527, 430516, 1, 0, -1, -90528, -200000, -430515, 1<<32 + 200000, 200000 - 1<<32,
	math.MaxInt64, math.MinInt64, math.MinInt64 + 200000,
}

func TestExampleOfTheDocument(t *testing.T) {
	if m, e := Of(100000, 100001); m != 100000 || e != api.OK {
		t.Error(m, e)
	}
	h := New()
	for _, count := range []int64{100000, 100001} {
		if full, e := h.Add(count); full || e != api.OK {
			t.Error(count, full, e)
		}
	}
	if m, e := h.Mean(); m != 100000 || e != api.OK {
		t.Error(m, e)
	}
}

func TestNewHeapHasNone(t *testing.T) {
	same(t, New(), &pile{})
}

func TestEdgesOfGoodCounts(t *testing.T) {
	for _, count := range []int64{90528, 90529, 430514, 430515} {
		step(t, New(), &pile{}, count)
		if m, e := Of(count); m != count || e != api.OK {
			t.Error(count, m, e)
		}
	}
}

func TestWrongCountChangesNothing(t *testing.T) {
	for n := range 17 {
		h, p := filled(t, n)
		for _, count := range wrong {
			if full, e := h.Add(count); full || e != api.ErrRange {
				t.Error(n, count, full, e)
			}
			same(t, h, p)
		}
	}
}

func TestSixteenthCountFills(t *testing.T) {
	h := New()
	for i := range 16 {
		if full, e := h.Add(200000); full != (i == 15) || e != api.OK {
			t.Error(i, full, e)
		}
	}
}

func TestFullHeapTakesNone(t *testing.T) {
	h, p := filled(t, 16)
	for _, count := range []int64{90528, 200000, 430515} {
		if full, e := h.Add(count); full || e != api.ErrFull {
			t.Error(count, full, e)
		}
		same(t, h, p)
	}
}

func TestWrongCountIsToldBeforeFullHeap(t *testing.T) {
	h, _ := filled(t, 16)
	if full, e := h.Add(90527); full || e != api.ErrRange {
		t.Error(full, e)
	}
}

func TestClearLeavesNone(t *testing.T) {
	for n := range 17 {
		h, p := filled(t, n)
		step(t, h, p, clearing)
		for i := range 18 {
			step(t, h, p, 300000+int64(i))
		}
	}
}

func TestEveryOrderOfCalls(t *testing.T) {
	steps := []int64{90528, 430515, 90527, clearing}
	for _, n := range []int{0, 1, 13, 14} {
		for order := range 1 << 10 {
			h, p := filled(t, n)
			for i := range 5 {
				step(t, h, p, steps[order>>(2*i)&3])
			}
		}
	}
}

func TestDrawnCalls(t *testing.T) {
	draw := draws(17)
	h, p := New(), &pile{}
	for range 20000 {
		switch draw(40) {
		case 0:
			step(t, h, p, clearing)
		case 1, 2:
			step(t, h, p, wrong[draw(int64(len(wrong)))])
		default:
			step(t, h, p, 90528+draw(430515-90528+1))
		}
	}
}

func TestHeapsAreApart(t *testing.T) {
	a, p := filled(t, 3)
	b, q := filled(t, 5)
	step(t, a, p, 123456)
	same(t, b, q)
	step(t, b, q, clearing)
	same(t, a, p)
}

func TestOfNone(t *testing.T) {
	if m, e := Of(); m != 0 || e != api.ErrZero {
		t.Error(m, e)
	}
	for _, l := range [][]int64{nil, {}} {
		if m, e := Of(l...); m != 0 || e != api.ErrZero {
			t.Error(m, e)
		}
	}
}

func TestOfWrongOne(t *testing.T) {
	for _, count := range wrong {
		for n := range 20 {
			for at := range n + 1 {
				l := slices.Insert(slices.Repeat([]int64{200000}, n), at, count)
				if m, e := Of(l...); m != 0 || e != api.ErrRange {
					t.Error(n, at, count, m, e)
				}
			}
		}
	}
}

// Wrong counts whose sum and mean would be good are told all the same.
func TestOfWrongOnesWithGoodMean(t *testing.T) {
	for _, l := range [][]int64{{0, 400000}, {-1, 400001}, {500000, 100000}, {math.MaxInt64, math.MinInt64, 300001}} {
		if m, e := Of(l...); m != 0 || e != api.ErrRange {
			t.Error(l, m, e)
		}
	}
}

func TestOfDrawn(t *testing.T) {
	draw := draws(1717)
	for range 5000 {
		l := make([]int64, draw(50))
		for i := range l {
			l[i] = 90528 + draw(430515-90528+1)
		}
		m, e := wanted(l)
		if got, f := Of(l...); got != m || f != e {
			t.Error(l, got, f, "want", m, e)
		}
	}
}

func TestOfAsManyAsOneLikes(t *testing.T) {
	for _, n := range []int{15, 16, 17, 1000, 100000} {
		high := slices.Repeat([]int64{430515}, n)
		if m, e := Of(high...); m != 430515 || e != api.OK {
			t.Error(n, m, e)
		}
		high[n/2]--
		if m, e := Of(high...); m != 430514 || e != api.OK {
			t.Error(n, m, e)
		}
	}
}

func TestMeanIsBetween(t *testing.T) {
	draw := draws(171)
	for range 5000 {
		low := 90528 + draw(430515-90528+1)
		h, l := New(), make([]int64, 1+draw(16))
		for i := range l {
			l[i] = low + draw(min(5, 430515-low+1))
			h.Add(l[i])
		}
		m, e := h.Mean()
		if e != api.OK || m < slices.Min(l) || slices.Max(l) < m || !good(m) {
			t.Error(l, m, e)
		}
		if n, f := Of(l...); n != m || f != e {
			t.Error(l, n, f, "want", m, e)
		}
	}
}

func TestMeanOfCountsThatAreAlike(t *testing.T) {
	for _, count := range []int64{90528, 90529, 200001, 430514, 430515} {
		h := New()
		for n := range 16 {
			h.Add(count)
			if m, e := h.Mean(); m != count || e != api.OK {
				t.Error(n, count, m, e)
			}
			if m, e := Of(slices.Repeat([]int64{count}, n+1)...); m != count || e != api.OK {
				t.Error(n, count, m, e)
			}
		}
	}
}

func TestWhatIsHandedInIsLeft(t *testing.T) {
	l := []int64{300000, 100000, 200001}
	Of(l...)
	if !slices.Equal(l, []int64{300000, 100000, 200001}) {
		t.Error(l)
	}
}
