package faces

import (
	"testing"

	"aneroid/api"
	"aneroid/atmos"
	"aneroid/bank"
	"aneroid/channel"
	"aneroid/conf"
	"aneroid/fix"
	"aneroid/gate"
	"aneroid/motion"
	"aneroid/root"
	"aneroid/tame"
	"aneroid/wide"
)

// TestTenExamples: the document's ten examples of the whole.
func TestTenExamples(t *testing.T) {
	five, _ := wide.Even(wide.Of(5), 2)
	seven, _ := wide.Even(wide.Of(7), 2)
	below, _ := wide.Div(wide.Of(-7), 2)
	if five != wide.Of(2) || seven != wide.Of(4) || below != wide.Of(-4) {
		t.Error(1, five, seven, below)
	}
	if x, e := fix.Mul(3<<39, 3<<39); x != 9<<38 || e != api.OK {
		t.Error(2, x, e)
	}
	if n, e := root.Of(wide.Of(17)); n != 4 || e != api.OK || root.Mean(2, 8) != 4 {
		t.Error(3, n, e)
	}
	if h, e := atmos.Altitude(405300); h != 0 || e != api.OK {
		t.Error(4, h, e)
	}
	if x, e := motion.On(api.Vec{0, 1 << 40, 0}, 0); x != (api.Vec{1 << 33, 1 << 40, 0}) || e != api.OK {
		t.Error(5, x, e)
	}
	if p, e := tame.Tame(api.Sym{20, 50, 0, 5, 0, 5}, api.Vec{1, 1, 1}, api.Vec{9, 9, 9}); p != (api.Sym{9, 5, 0, 5, 0, 5}) || e != api.OK {
		t.Error(6, p, e)
	}
	if g, e := gate.Least(3<<40, 1<<40); g != 9 || e != api.OK {
		t.Error(7, g, e)
	}
	c := conf.Default()
	c.Gate = 0
	if n := conf.Check(c); n != 8 {
		t.Error(8, n)
	}
	ticks := make([]api.Tick, 16)
	for i := range ticks {
		ticks[i] = api.Tick{Accel: 2048, Has: true, Press: 405300}
	}
	if told, e := channel.Run(conf.Default(), ticks); e != api.OK || told[15] != (api.Told{Mode: api.Track, Valid: true, Accepted: true}) {
		t.Error(9, told, e)
	}
	var told []api.Told
	for _, h := range []int64{5, 1, 9, 7} {
		told = append(told, api.Told{Valid: true, Alt: h})
	}
	if h, ok := bank.Middle(told); h != 5 || !ok {
		t.Error(10, h, ok)
	}
}
