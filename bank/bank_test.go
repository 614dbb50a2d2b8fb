package bank

import (
	"math"
	"slices"
	"sync"
	"testing"

	"aneroid/api"
	"aneroid/channel"
	"aneroid/conf"
)

// draws are numbers that are the same each time.
func draws(seed uint64) func(n int64) int64 {
	return func(n int64) int64 {
		seed = seed*6364136223846793005 + 1442695040888963407
		return int64(seed>>33) % n
	}
}

// drawnConf is a configuration that keeps all rules, so that what is told hangs on it.
func drawnConf(draw func(n int64) int64) api.Conf {
	c := conf.Default()
	c.Gate = 1 + draw(1000)
	c.Hold = draw(6)
	c.Out = 1 + draw(60)
	c.Coast = 1 + draw(c.Out)
	c.Band = draw(2000)
	c.R = 1<<38 + draw(1<<30)
	c.RGround = c.R + draw(1<<30)
	return c
}

// drawnTicks are ticks of a flight, some without a count, with one far off or with a clipped thrust.
func drawnTicks(draw func(n int64) int64, n int) []api.Tick {
	l := make([]api.Tick, n)
	flight := 100000 + draw(300000)
	for i := range l {
		flight += draw(41) - 20
		l[i] = api.Tick{Accel: 2048 + draw(64) - 32, Has: draw(5) != 0, Press: flight, Short: draw(4) == 0}
		switch draw(20) {
		case 0:
			l[i].Press = draw(600000)
		case 1, 2:
			l[i].Accel = 32768
		}
	}
	return l
}

// drawnBank is a bank of so many lanes, each of a length of its own, some empty.
func drawnBank(draw func(n int64) int64, n int) ([]api.Conf, [][]api.Tick) {
	c, lanes := make([]api.Conf, n), make([][]api.Tick, n)
	for i := range n {
		c[i] = drawnConf(draw)
		if draw(6) != 0 {
			lanes[i] = drawnTicks(draw, int(draw(200)))
		}
	}
	return c, lanes
}

// good is a bank of so many lanes at rest, each as long as the others.
func good(n, ticks int) ([]api.Conf, [][]api.Tick) {
	c, lanes := make([]api.Conf, n), make([][]api.Tick, n)
	for i := range n {
		c[i] = conf.Default()
		for range ticks {
			lanes[i] = append(lanes[i], api.Tick{Accel: 2048, Has: true, Press: 400000 + 100*int64(i)})
		}
	}
	return c, lanes
}

// cloned are lanes of their own.
func cloned(lanes [][]api.Tick) [][]api.Tick {
	l := slices.Clone(lanes)
	for i := range l {
		l[i] = slices.Clone(l[i])
	}
	return l
}

// same tells whether lanes are as others.
func same[T comparable](a, b [][]T) bool {
	return slices.EqualFunc(a, b, func(x, y []T) bool { return slices.Equal(x, y) })
}

// alone is what each lane's channel tells, one behind the other, and the first error, by the document's words.
func alone(c []api.Conf, lanes [][]api.Tick, workers int) ([][]api.Told, api.Errno) {
	if len(c) != len(lanes) || len(lanes) > 16 || workers < 1 || workers > 16 {
		return nil, api.ErrArg
	}
	var all [][]api.Told
	for i := range lanes {
		l, e := channel.Run(c[i], lanes[i])
		if e != api.OK {
			return nil, e
		}
		all = append(all, l)
	}
	return all, api.OK
}

// ask holds Run and Some of a bank against what each lane tells alone, and what was handed in against what it was.
func ask(t *testing.T, c []api.Conf, lanes [][]api.Tick, workers int, mosts ...int) api.Errno {
	t.Helper()
	want, fault := alone(c, lanes, workers)
	keptC, keptLanes := slices.Clone(c), cloned(lanes)
	got, e := Run(c, lanes, workers)
	if e != fault || !same(got, want) {
		t.Fatal(len(c), len(lanes), workers, len(got), e, "want", len(want), fault)
	}
	for _, most := range mosts {
		n, e := Some(c, lanes, workers, most)
		if e != fault || e != api.OK && n != 0 {
			t.Fatal(len(c), len(lanes), workers, most, n, e, "want", fault)
		}
		if e == api.OK && (n < min(most, len(lanes)) || n > len(lanes) || n < 0 || most < 1 && n != 0) {
			t.Fatal(len(lanes), workers, most, n)
		}
	}
	if !slices.Equal(c, keptC) || !same(lanes, keptLanes) {
		t.Fatal("what was handed in isn't as it was")
	}
	return fault
}

// mosts are numbers of lanes that may be asked for, none of them among these, and more than there are.
var mosts = []int{math.MinInt, -16, -1, 0, 1, 2, 3, 5, 8, 13, 15, 16, 17, 99, math.MaxInt}

// TestEveryBank: as many lanes and as many workers as there may be, each with each other (P22.1, P22.2).
func TestEveryBank(t *testing.T) {
	draw := draws(22)
	for lanes := range 17 {
		c, l := drawnBank(draw, lanes)
		for workers := 1; workers <= 16; workers++ {
			if e := ask(t, c, l, workers, mosts...); e != api.OK {
				t.Fatal(lanes, workers, e)
			}
		}
	}
}

// TestOverAndOver: the same bank again and again, whatever turns workers take.
func TestOverAndOver(t *testing.T) {
	draw := draws(66)
	c, l := drawnBank(draw, 16)
	for i := range 300 {
		ask(t, c, l, 1+i%16, 1+i%17)
	}
}

// TestUnevenLanes: lanes of which the first ones, or the last ones, take far longer than the others still tell in their own places.
func TestUnevenLanes(t *testing.T) {
	draw := draws(7)
	for _, long := range [][]int{{0}, {15}, {0, 1, 2}, {7, 15}} {
		c, l := drawnBank(draw, 16)
		for _, i := range long {
			l[i] = drawnTicks(draw, api.MaxSteps)
		}
		for _, workers := range []int{1, 2, 3, 8, 16} {
			ask(t, c, l, workers, 1, 4, 16)
		}
	}
}

func TestWorkers(t *testing.T) {
	for _, lanes := range []int{0, 1, 16} {
		c, l := good(lanes, 20)
		for _, workers := range []int{math.MinInt, math.MinInt32, -16, -1, 0, 17, 18, 1<<32 + 1, math.MaxInt} {
			if e := ask(t, c, l, workers, mosts...); e != api.ErrArg {
				t.Error(lanes, workers, e)
			}
		}
	}
}

// TestUnevenLists: as many configurations as lanes, else ErrArg, whatever the lanes' own errors are.
func TestUnevenLists(t *testing.T) {
	c, l := good(18, 3)
	for i := range 19 {
		for j := range 19 {
			want := api.OK
			if i != j || i > 16 {
				want = api.ErrArg
			}
			if e := ask(t, c[:i], l[:j], 3, 0, 1, 16); e != want {
				t.Error(i, j, e, "want", want)
			}
		}
	}
	l[0] = make([]api.Tick, api.MaxSteps+1)
	for _, n := range []int{0, 1, 3, 17} {
		if e := ask(t, c[:n], l[:2], 3, 0, 1, 16); e != api.ErrArg {
			t.Error(n, e)
		}
	}
	if e := ask(t, c[:17], l[:17], 3, 0, 1); e != api.ErrArg {
		t.Error(e)
	}
	if e := ask(t, c[:2], l[:2], 17, 0, 1); e != api.ErrArg {
		t.Error(e)
	}
}

// TestFirstFault: of two lanes with an error each the first one's is told, on a lane that no worker may ever begin, too.
func TestFirstFault(t *testing.T) {
	full, wrong := make([]api.Tick, api.MaxSteps+1), api.Conf{}
	for i := range 16 {
		for j := range 16 {
			c, l := good(16, 2)
			l[i] = full
			want := api.ErrFull
			// A configuration's error goes ahead of too many ticks on one lane.
			if c[j] = wrong; j <= i {
				want = api.ErrArg
			}
			for _, workers := range []int{1, 4, 16} {
				if e := ask(t, c, l, workers, math.MinInt, 0, 1, 2, 16); e != want {
					t.Error(i, j, workers, e, "want", want)
				}
			}
		}
	}
}

// TestLaneAtItsEnd: a lane of as many ticks as there may be, and one of one more, on each place.
func TestLaneAtItsEnd(t *testing.T) {
	for i := range 16 {
		c, l := good(16, 1)
		l[i] = make([]api.Tick, api.MaxSteps)
		if e := ask(t, c, l, 5, 0, 16); e != api.OK {
			t.Error(i, e)
		}
		l[i] = make([]api.Tick, api.MaxSteps+1)
		if e := ask(t, c, l, 5, 0, 16); e != api.ErrFull {
			t.Error(i, e)
		}
	}
}

// TestRuleNotKept: a configuration next to one that keeps all rules, on each place.
func TestRuleNotKept(t *testing.T) {
	for i := range 16 {
		c, l := good(16, 1)
		c[i].Gate = 1000
		if e := ask(t, c, l, 16, 0, 16); e != api.OK {
			t.Error(i, e)
		}
		c[i].Gate = 1001
		if e := ask(t, c, l, 16, 0, 16); e != api.ErrArg {
			t.Error(i, e)
		}
	}
}

// TestOfNone: no lanes, and lanes without ticks, as nil and as empty lists.
func TestOfNone(t *testing.T) {
	for _, c := range [][]api.Conf{nil, {}} {
		for _, l := range [][][]api.Tick{nil, {}} {
			if e := ask(t, c, l, 1, mosts...); e != api.OK {
				t.Error(e)
			}
		}
	}
	c, _ := good(3, 0)
	got, e := Run(c, [][]api.Tick{nil, {}, nil}, 2)
	if e != api.OK || len(got) != 3 || len(got[0])+len(got[1])+len(got[2]) != 0 {
		t.Error(got, e)
	}
	if n, e := Some(c, make([][]api.Tick, 3), 2, 3); n != 3 || e != api.OK {
		t.Error(n, e)
	}
}

// TestMemory: answers share nothing, with each other or with what was handed in, even where two lanes are one list.
func TestMemory(t *testing.T) {
	c, l := good(4, 30)
	l[1], l[2] = l[0], l[0][:20]
	want, _ := alone(c, l, 1)
	a, _ := Run(c, l, 4)
	b, _ := Run(c, l, 4)
	for i := range a {
		clear(a[i][:cap(a[i])])
		for j := i + 1; j < len(a); j++ {
			if !slices.Equal(a[j], want[j]) {
				t.Error(i, "and", j, "share")
			}
		}
	}
	clear(a)
	clear(l[0])
	clear(l)
	clear(c)
	if !same(b, want) {
		t.Error("answers share")
	}
	if empty, _ := Run(nil, nil, 1); len(empty) != 0 {
		t.Error(empty)
	}
}

// TestBanksAtOnce: banks that are asked at the same time about the same lanes.
func TestBanksAtOnce(t *testing.T) {
	c, l := drawnBank(draws(5), 16)
	want, _ := alone(c, l, 1)
	var all sync.WaitGroup
	for workers := 1; workers <= 16; workers++ {
		all.Go(func() {
			for range 5 {
				if got, e := Run(c, l, workers); e != api.OK || !same(got, want) {
					t.Error(workers, e)
				}
				if n, e := Some(c, l, workers, workers); n < workers || n > 16 || e != api.OK {
					t.Error(workers, n, e)
				}
			}
		})
	}
	all.Wait()
}
