package mode

import (
	"math"
	"math/big"
	"slices"
	"testing"
)

// The modes, by the document's numbers.
const (
	first  = 0
	track  = 1
	coasts = 2
	lost   = 3
)

// wanted is the clock behind an event, by the document's words and whole numbers of any size.
func wanted(c Clock, event int, coast, out int64) Clock {
	if event < 0 || event > 3 {
		return c
	}
	switch c.Mode {
	case first, lost:
		return [...]Clock{{track, 0}, c, c, {lost, 0}}[event]
	case track, coasts:
		return [...]Clock{{track, 0}, {track, 0}, missed(c, coast, out), {lost, 0}}[event]
	}
	return c
}

// missed is one of mode Track or Coast behind a miss.
func missed(c Clock, coast, out int64) Clock {
	since := new(big.Int).Add(big.NewInt(int64(c.Since)), big.NewInt(1))
	if since.Cmp(big.NewInt(out)) > 0 {
		return Clock{lost, 0}
	}
	if since.Cmp(big.NewInt(coast)) >= 0 {
		return Clock{coasts, int(since.Int64())}
	}
	return Clock{track, int(since.Int64())}
}

// draws are numbers that are the same each time.
func draws(seed uint64) func(n int64) int64 {
	return func(n int64) int64 {
		seed = seed*6364136223846793005 + 1442695040888963407
		return int64(seed>>33) % n
	}
}

var (
	events = []int{0, 1, 2, 3, 4, 5, -1, -2, 256, 1 << 32, 1<<32 + 2, math.MaxInt, math.MinInt}
	modes  = []int{0, 1, 2, 3, 4, 5, -1, -2, 257, 1 << 32, 1<<32 + 1, math.MaxInt, math.MinInt}
	sinces = []int{0, 1, 2, 3, 4, 7, -1, -2, -3, 1<<31 - 1, 1 << 31, 1 << 32, math.MaxInt - 1, math.MaxInt, math.MinInt, math.MinInt + 1}
	// edges are for both numbers, Coast's and Out.
	edges = []int64{0, 1, 2, 3, 4, 5, 8, -1, -2, -3, 1 << 31, 1<<31 + 1, 1 << 32, 1<<32 + 1, math.MaxInt64 - 1, math.MaxInt64, math.MinInt64, math.MinInt64 + 1, math.MinInt64 + 2}
)

// same asks a row of events for its clocks, and holds them against what is wanted.
func same(t *testing.T, row []int, coast, out int64) []Clock {
	t.Helper()
	got := Run(row, coast, out)
	if len(got) != len(row) {
		t.Fatal(row, coast, out, len(got))
	}
	c := Clock{}
	for i, event := range row {
		c = wanted(c, event, coast, out)
		if got[i] != c {
			t.Fatal(row, coast, out, "at", i, got[i], "want", c)
		}
	}
	return got
}

// rows hands on every row of n events of an alphabet.
func rows(alphabet []int, n int) func(yield func([]int) bool) {
	return func(yield func([]int) bool) {
		places := make([]int, n)
		for {
			row := make([]int, n)
			for i, place := range places {
				row[i] = alphabet[place]
			}
			if !yield(row) {
				return
			}
			i := 0
			for ; i < n && places[i] == len(alphabet)-1; i++ {
				places[i] = 0
			}
			if i == n {
				return
			}
			places[i]++
		}
	}
}

func TestNumbersOfEvents(t *testing.T) {
	if Enter != 0 || Take != 1 || Miss != 2 || Fall != 3 {
		t.Error(Enter, Take, Miss, Fall)
	}
}

func TestExampleOfTheDocument(t *testing.T) {
	got := Run([]int{Enter, Miss, Miss}, 2, 3)
	if want := []Clock{{1, 0}, {1, 1}, {2, 2}}; !slices.Equal(got, want) {
		t.Error(got)
	}
}

// TestWrittenOut: each mode's clocks behind each event, with Coast's number 2 and Out 3.
func TestWrittenOut(t *testing.T) {
	for _, x := range []struct {
		c                       Clock
		enter, take, miss, fall Clock
	}{
		{Clock{0, 0}, Clock{1, 0}, Clock{0, 0}, Clock{0, 0}, Clock{3, 0}},
		{Clock{0, 5}, Clock{1, 0}, Clock{0, 5}, Clock{0, 5}, Clock{3, 0}},
		{Clock{3, 0}, Clock{1, 0}, Clock{3, 0}, Clock{3, 0}, Clock{3, 0}},
		{Clock{3, 5}, Clock{1, 0}, Clock{3, 5}, Clock{3, 5}, Clock{3, 0}},
		{Clock{1, 0}, Clock{1, 0}, Clock{1, 0}, Clock{1, 1}, Clock{3, 0}},
		{Clock{1, 1}, Clock{1, 0}, Clock{1, 0}, Clock{2, 2}, Clock{3, 0}},
		{Clock{1, 2}, Clock{1, 0}, Clock{1, 0}, Clock{2, 3}, Clock{3, 0}},
		{Clock{1, 3}, Clock{1, 0}, Clock{1, 0}, Clock{3, 0}, Clock{3, 0}},
		{Clock{1, -2}, Clock{1, 0}, Clock{1, 0}, Clock{1, -1}, Clock{3, 0}},
		{Clock{2, 0}, Clock{1, 0}, Clock{1, 0}, Clock{1, 1}, Clock{3, 0}},
		{Clock{2, 1}, Clock{1, 0}, Clock{1, 0}, Clock{2, 2}, Clock{3, 0}},
		{Clock{2, 2}, Clock{1, 0}, Clock{1, 0}, Clock{2, 3}, Clock{3, 0}},
		{Clock{2, 3}, Clock{1, 0}, Clock{1, 0}, Clock{3, 0}, Clock{3, 0}},
		{Clock{4, 5}, Clock{4, 5}, Clock{4, 5}, Clock{4, 5}, Clock{4, 5}},
		{Clock{-1, 5}, Clock{-1, 5}, Clock{-1, 5}, Clock{-1, 5}, Clock{-1, 5}},
	} {
		for event, want := range []Clock{x.enter, x.take, x.miss, x.fall} {
			if got := x.c.On(event, 2, 3); got != want {
				t.Error(x.c, event, got, "want", want)
			}
		}
		for _, event := range []int{4, -1} {
			if got := x.c.On(event, 2, 3); got != x.c {
				t.Error(x.c, event, got)
			}
		}
	}
}

// TestOnAtTheEdges: all modes, sinces and events, with all numbers.
func TestOnAtTheEdges(t *testing.T) {
	for _, mode := range modes {
		for _, since := range sinces {
			c := Clock{mode, since}
			for _, event := range events {
				for _, coast := range edges {
					for _, out := range edges {
						if got, want := c.On(event, coast, out), wanted(c, event, coast, out); got != want {
							t.Fatal(c, event, coast, out, got, "want", want)
						}
					}
				}
			}
			if c != (Clock{mode, since}) {
				t.Fatal("changed", c, mode, since)
			}
		}
	}
}

// TestGreatestSince: one more than the greatest number is more than any Out, and doesn't wrap round.
func TestGreatestSince(t *testing.T) {
	for _, mode := range []int{track, coasts} {
		for _, out := range edges {
			if got := (Clock{mode, math.MaxInt}).On(Miss, 0, out); got != (Clock{lost, 0}) {
				t.Error(mode, out, got)
			}
		}
		if got := (Clock{mode, math.MaxInt - 1}).On(Miss, math.MaxInt64, math.MaxInt64); got != (Clock{coasts, math.MaxInt}) {
			t.Error(mode, got)
		}
	}
}

func TestValidAndSeeks(t *testing.T) {
	for _, mode := range modes {
		for _, since := range sinces {
			c := Clock{mode, since}
			if got, want := c.Valid(), mode == track || mode == coasts; got != want {
				t.Error(c, "valid", got)
			}
			if got, want := c.Seeks(), mode == first || mode == lost; got != want {
				t.Error(c, "seeks", got)
			}
		}
	}
}

func TestRunOfNone(t *testing.T) {
	for _, row := range [][]int{nil, {}} {
		for _, coast := range edges {
			for _, out := range edges {
				if got := Run(row, coast, out); len(got) != 0 {
					t.Error(coast, out, got)
				}
			}
		}
	}
}

// TestEveryRow: every row of up to six events, one of no such number among them.
func TestEveryRow(t *testing.T) {
	for _, coast := range []int64{-1, 0, 1, 2, 3, math.MaxInt64} {
		for _, out := range []int64{math.MinInt64, -1, 0, 1, 2, 3, math.MaxInt64} {
			for n := range 7 {
				for row := range rows([]int{Enter, Take, Miss, Fall, 4}, n) {
					same(t, row, coast, out)
				}
			}
		}
	}
}

func TestRunAtTheEdges(t *testing.T) {
	for _, coast := range edges {
		for _, out := range edges {
			for row := range rows(events, 2) {
				same(t, append([]int{Enter}, row...), coast, out)
			}
		}
	}
}

// ago is how many events ago one of a row's was Take or Enter, the last of them: none, if there is none.
func ago(row []int) (int, bool) {
	for i := range row {
		if event := row[len(row)-1-i]; event == Enter || event == Take {
			return i, true
		}
	}
	return 0, false
}

// TestNotLongAgo: in a clock that is valid, since isn't above out, and just so many events ago one was Enter or Take; in others it is 0.
func TestNotLongAgo(t *testing.T) {
	draw := draws(56)
	for out := range int64(12) {
		for coast := int64(-1); coast < 14; coast++ {
			for range 200 {
				row := make([]int, 40)
				for i := range row {
					row[i] = []int{Enter, Take, Miss, Miss, Miss, Miss, Miss, Miss, Miss, Fall}[draw(10)]
				}
				for i, c := range Run(row, coast, out) {
					n, some := ago(row[:i+1])
					if c.Valid() && (int64(c.Since) > out || !some || n != c.Since) || !c.Valid() && c.Since != 0 {
						t.Fatal(row[:i+1], coast, out, c)
					}
				}
			}
		}
	}
}

// TestLongWay: misses one behind the other, up to Coast's number, to Out, and behind it.
func TestLongWay(t *testing.T) {
	row := make([]int, 5000)
	for i := range row {
		row[i] = Miss
	}
	row[0] = Enter
	for _, x := range []struct{ coast, out int64 }{{64, 256}, {1, 1}, {4096, 4096}, {4095, 4096}, {4097, 4096}, {300, 200}} {
		got := same(t, row, x.coast, x.out)
		for i, c := range got {
			want := Clock{track, i}
			if int64(i) >= x.coast {
				want.Mode = coasts
			}
			if int64(i) > x.out {
				want = Clock{lost, 0}
			}
			if c != want {
				t.Fatal(x, i, c, want)
			}
		}
	}
}

// TestWayBack: from Lost it takes the first samples again; one that is taken, or none, doesn't lead back.
func TestWayBack(t *testing.T) {
	row := []int{Fall, Take, Miss, Enter, Miss, Fall, Miss, Take, Enter, Take}
	want := []Clock{{3, 0}, {3, 0}, {3, 0}, {1, 0}, {1, 1}, {3, 0}, {3, 0}, {3, 0}, {1, 0}, {1, 0}}
	if got := Run(row, 5, 9); !slices.Equal(got, want) {
		t.Error(got)
	}
}

// TestMemory: the events stay as they were, and answers share none with each other or with them.
func TestMemory(t *testing.T) {
	row := []int{Enter, Miss, Miss, Take, 9}
	kept := slices.Clone(row)
	a, b := Run(row, 2, 3), Run(row, 2, 3)
	if !slices.Equal(row, kept) {
		t.Fatal(row)
	}
	for i := range a {
		a[i] = Clock{9, 9}
		row[i] = Fall
	}
	if want := []Clock{{1, 0}, {1, 1}, {2, 2}, {1, 0}, {1, 0}}; !slices.Equal(b, want) || !slices.Equal(Run(kept, 2, 3), want) {
		t.Error(b)
	}
}

// TestOfDrawnOnes: drawn rows with drawn numbers, some of them at the edges.
func TestOfDrawnOnes(t *testing.T) {
	draw := draws(19)
	number := func() int64 {
		if draw(5) == 0 {
			return edges[draw(int64(len(edges)))]
		}
		return draw(12) - 1
	}
	for range 20000 {
		row := make([]int, draw(40))
		for i := range row {
			row[i] = Miss
			if draw(4) == 0 {
				row[i] = events[draw(int64(len(events)))]
			}
		}
		same(t, row, number(), number())
	}
}
