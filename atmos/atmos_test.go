package atmos

import (
	"math"
	"math/big"
	"testing"

	"aneroid/api"
)

const one = int64(1) << 40

// listed are the heights, in metres, and counts that the document lists.
var listed = [][2]int64{
	{-512, 430515}, {-256, 417754}, {0, 405300}, {256, 393149}, {512, 381294}, {768, 369731},
	{1024, 358453}, {1280, 347455}, {1536, 336732}, {1792, 326279}, {2048, 316090}, {2304, 306161},
	{2560, 296485}, {2816, 287058}, {3072, 277876}, {3328, 268933}, {3584, 260224}, {3840, 251746},
	{4096, 243492}, {4352, 235459}, {4608, 227641}, {4864, 220036}, {5120, 212637}, {5376, 205441},
	{5632, 198444}, {5888, 191640}, {6144, 185027}, {6400, 178600}, {6656, 172355}, {6912, 166288},
	{7168, 160395}, {7424, 154672}, {7680, 149116}, {7936, 143723}, {8192, 138488}, {8448, 133409},
	{8704, 128482}, {8960, 123703}, {9216, 119069}, {9472, 114577}, {9728, 110223}, {9984, 106004},
	{10240, 101917}, {10496, 97958}, {10752, 94125}, {11008, 90414}, {11264, 86822},
}

// badCounts are counts that aren't good: neighbours of those that are, edges, and some that are good in their lower bits.
func badCounts() []int64 {
	return []int64{
		api.Low - 1, api.High + 1, 90414, 86822, 86821, 0, 1, -1, -api.Low, -405300, -api.High,
		405300 + 1<<32, 405300 + 1<<40, 405300 - 1<<32, 405300 | math.MinInt64, math.MaxInt32, math.MaxInt64, math.MinInt64, math.MinInt64 + 1,
	}
}

// between is a good count's altitude, in whole numbers of any size.
func between(count int64) int64 {
	i := 0
	for k, node := range listed {
		if node[1] >= count {
			i = k
		}
	}
	x := big.NewInt(256 * one)
	x.Mul(x, big.NewInt(listed[i][1]-count))
	x.Div(x, big.NewInt(listed[i][1]-listed[i+1][1]))
	return x.Add(x, new(big.Int).Mul(big.NewInt(listed[i][0]), big.NewInt(one))).Int64()
}

func TestExampleOfTheDocument(t *testing.T) {
	if h, e := Altitude(405300); h != 0 || e != api.OK {
		t.Error(h, e)
	}
	over, e := Altitude(399224)
	under, f := Altitude(399225)
	if over <= 128*one || over >= 129*one || under >= 128*one || e != api.OK || f != api.OK {
		t.Error(over, e, under, f)
	}
}

func TestGood(t *testing.T) {
	for count := int64(api.Low); count <= api.High; count++ {
		if !Good(count) {
			t.Fatal(count)
		}
	}
	for _, count := range badCounts() {
		if Good(count) {
			t.Error(count)
		}
	}
}

// TestAltitude: each good count's, rounded down above its height.
func TestAltitude(t *testing.T) {
	for count := int64(api.Low); count <= api.High; count++ {
		if h, e := Altitude(count); h != between(count) || e != api.OK {
			t.Fatal(count, h, e, between(count))
		}
	}
	for _, count := range badCounts() {
		if h, e := Altitude(count); h != 0 || e != api.ErrRange {
			t.Error(count, h, e)
		}
	}
}

// TestWrittenOut: altitudes that stand as numbers, of both ends and of places between heights, below 0, too.
func TestWrittenOut(t *testing.T) {
	for _, x := range []struct{ count, altitude int64 }{
		{430515, -562949953421312},
		{430514, -562927895982498}, // 2^48 through 12761 above the lowest height
		{417755, -281497034149471}, // 12760 times that, rounded down once
		{405300, 0},
		{405299, 23164758185}, // 2^48 through 12151
		{90528, 12094777232903393},
	} {
		if h, e := Altitude(x.count); h != x.altitude || e != api.OK {
			t.Error(x.count, h, e, x.altitude)
		}
	}
}

// TestFalling: of two good counts the greater one has the lesser altitude.
func TestFalling(t *testing.T) {
	last, _ := Altitude(api.Low)
	for count := int64(api.Low) + 1; count <= api.High; count++ {
		h, e := Altitude(count)
		if h >= last || e != api.OK {
			t.Fatal(count, h, last, e)
		}
		last = h
	}
}

// TestCount: at each good count's altitude, just above it and just below it.
func TestCount(t *testing.T) {
	for count := int64(api.Low); count <= api.High; count++ {
		h := between(count)
		for _, altitude := range []int64{h, h - 1} {
			if got, e := Count(altitude); got != count || e != api.OK {
				t.Fatal(count, altitude, got, e)
			}
		}
		if count > api.Low {
			if got, e := Count(h + 1); got != count-1 || e != api.OK {
				t.Fatal(count, h+1, got, e)
			}
		}
	}
}

// TestCountAtTheEdges: below all altitudes it is the greatest good count; above all there is none, at the table's own heights neither.
func TestCountAtTheEdges(t *testing.T) {
	for _, altitude := range []int64{math.MinInt64, math.MinInt64 + 1, -1 << 58, -512*one - 1, -512 * one} {
		if count, e := Count(altitude); count != api.High || e != api.OK {
			t.Error(altitude, count, e)
		}
	}
	highest := between(api.Low)
	if count, e := Count(highest); count != api.Low || e != api.OK {
		t.Error(count, e)
	}
	for _, altitude := range []int64{highest + 1, 11008*one - 1, 11008 * one, 11264 * one, 1 << 58, math.MaxInt64 - 1, math.MaxInt64} {
		if count, e := Count(altitude); count != 0 || e != api.ErrRange {
			t.Error(altitude, count, e)
		}
	}
}

// TestNode: each height and its count, of those that aren't good, too; each good one has that altitude.
func TestNode(t *testing.T) {
	for i, want := range listed {
		h, count, e := Node(i)
		if h != want[0]*one || count != want[1] || e != api.OK {
			t.Error(i, h, count, e)
		}
		if altitude, e := Altitude(count); Good(count) && (altitude != h || e != api.OK) {
			t.Error(i, altitude, e)
		}
	}
	for _, i := range []int{-1, -2, -47, len(listed), len(listed) + 1, 1 << 8, 1 << 32, 1<<32 + 2, -1 << 32, math.MaxInt, math.MinInt} {
		if h, count, e := Node(i); h != 0 || count != 0 || e != api.ErrRange {
			t.Error(i, h, count, e)
		}
	}
}

// TestStandard: the table's pressures are the standard atmosphere's. Its power is 5.25588, of which the document tells four places.
func TestStandard(t *testing.T) {
	for i := range listed {
		h, count, _ := Node(i)
		metres := float64(h) / float64(one)
		if want := math.Round(4 * 101325 * math.Pow(1-0.0065*metres/288.15, 5.25588)); float64(count) != want {
			t.Error(i, metres, count, want)
		}
	}
}
