// Package faces holds the given numbers and every layer's calls against the document.
package faces

import (
	"testing"

	"aneroid/accel"
	"aneroid/api"
	"aneroid/atmos"
	"aneroid/bank"
	"aneroid/baro"
	"aneroid/channel"
	"aneroid/conf"
	"aneroid/fix"
	"aneroid/gain"
	"aneroid/gate"
	"aneroid/ground"
	"aneroid/joseph"
	"aneroid/mean"
	"aneroid/mode"
	"aneroid/motion"
	"aneroid/parse"
	"aneroid/root"
	"aneroid/script"
	"aneroid/spread"
	"aneroid/sym"
	"aneroid/tame"
	"aneroid/tape"
	"aneroid/vec"
	"aneroid/wide"
)

// The calls that the chapters list, with their signatures: what differs doesn't compile.
var (
	_ func(int64) api.Wide                                = wide.Of
	_ func(api.Wide) (int64, api.Errno)                   = wide.Int
	_ func(a, b api.Wide) int                             = wide.Cmp
	_ func(a, b api.Wide) (api.Wide, api.Errno)           = wide.Add
	_ func(a, b api.Wide) (api.Wide, api.Errno)           = wide.Sub
	_ func(x, y int64) api.Wide                           = wide.Mul
	_ func(a api.Wide, n int) (api.Wide, api.Errno)       = wide.Up
	_ func(a api.Wide, n int) (api.Wide, api.Errno)       = wide.Half
	_ func(api.Wide, int64) (api.Wide, api.Errno)         = wide.Div
	_ func(api.Wide, int64) (api.Wide, api.Errno)         = wide.Even
	_ func(int64) bool                                    = fix.Fits
	_ func(a, b int64) (int64, api.Errno)                 = fix.Add
	_ func(a, b int64) (int64, api.Errno)                 = fix.Sub
	_ func(a, b int64) (int64, api.Errno)                 = fix.Mul
	_ func(a, b int64) (int64, api.Errno)                 = fix.Div
	_ func(x, most int64) int64                           = fix.Clamp
	_ func(int64) int64                                   = fix.Out
	_ func(int64) (int64, api.Errno)                      = fix.In
	_ func(api.Wide) (uint64, api.Errno)                  = root.Of
	_ func(x, y int64) int64                              = root.Mean
	_ func(api.Vec) bool                                  = vec.Fits
	_ func(a, b api.Vec) (api.Vec, api.Errno)             = vec.Add
	_ func(api.Vec, int64) (api.Vec, api.Errno)           = vec.Scale
	_ func(a, b api.Vec) (int64, api.Errno)               = vec.Dot
	_ func(a, most api.Vec) api.Vec                       = vec.Clamp
	_ func(api.Vec) int64                                 = vec.Least
	_ func(m api.Sym, i, j int) (int64, api.Errno)        = sym.At
	_ func(api.Sym, int, int, int64) (api.Sym, api.Errno) = sym.Put
	_ func(m api.Sym, i int) (api.Vec, api.Errno)         = sym.Row
	_ func(api.Vec) api.Sym                               = sym.Diag
	_ func(api.Sym) api.Vec                               = sym.Main
	_ func(a, b api.Sym) (api.Sym, api.Errno)             = sym.Add
	_ func(m api.Sym, floor api.Vec) bool                 = sym.Sound
	_ func(count int64) bool                              = atmos.Good
	_ func(count int64) (int64, api.Errno)                = atmos.Altitude
	_ func(altitude int64) (int64, api.Errno)             = atmos.Count
	_ func(i int) (int64, int64, api.Errno)               = atmos.Node
	_ func(api.Vec, int64) (api.Vec, api.Errno)           = motion.On
	_ func(x, bound api.Vec) api.Vec                      = motion.Kept
	_ func(x api.Vec) bool                                = motion.Rest
	_ func(api.Sym, api.Vec) (api.Sym, api.Errno)         = spread.On
	_ func(api.Sym) ([6]api.Wide, api.Errno)              = spread.Raw
	_ func(floor, ceil api.Vec) bool                      = tame.May
	_ func(p api.Sym, f, c api.Vec) (api.Sym, api.Errno)  = tame.Tame
	_ func(p api.Sym, floor, ceil api.Vec) bool           = tame.Is
)

var (
	_ func(x api.Vec, p api.Sym, sample, noise int64) (int64, int64, api.Errno)     = gate.Look
	_ func(surprise, spread, gate int64) bool                                       = gate.Pass
	_ func(surprise, spread int64) (int64, api.Errno)                               = gate.Least
	_ func(p api.Sym, spread int64) (api.Vec, api.Errno)                            = gain.Best
	_ func(p api.Sym, spread int64, short bool, table api.Vec) (api.Vec, api.Errno) = gain.Of
	_ func(k api.Vec) bool                                                          = gain.Mild
	_ func(x, k api.Vec, surprise int64) (api.Vec, api.Errno)                       = joseph.State
	_ func(p api.Sym, k api.Vec, spread int64) (api.Sym, api.Errno)                 = joseph.Doubt
	_ func(api.Conf) int                                                            = conf.Check
	_ func() api.Conf                                                               = conf.Default
	_ func(c api.Conf, count int64) (int64, api.Errno)                              = conf.Thrust
	_ func(api.Conf) string                                                         = parse.Put
	_ func(text string) (api.Conf, api.Errno)                                       = parse.Get
	_ func(text string) (api.Conf, int, api.Errno)                                  = parse.Load
	_ func(api.Conf) (*accel.Feed, api.Errno)                                       = accel.New
	_ func(*accel.Feed, int64) (thrust int64, held, lost bool)                      = (*accel.Feed).In
	_ func(*accel.Feed, bool) api.Vec                                               = (*accel.Feed).Add
	_ func(*accel.Feed) int64                                                       = (*accel.Feed).Run
	_ func(*accel.Feed) *accel.Feed                                                 = (*accel.Feed).Copy
	_ func() *baro.Log                                                              = baro.New
	_ func(*baro.Log, api.Tick) (int64, bool)                                       = (*baro.Log).In
	_ func(*baro.Log) (good, bad, none int)                                         = (*baro.Log).Counts
	_ func(*baro.Log) int64                                                         = (*baro.Log).Last
	_ func(api.Tick) (int64, bool)                                                  = baro.Brings
	_ func() *mean.Heap                                                             = mean.New
	_ func(*mean.Heap, int64) (bool, api.Errno)                                     = (*mean.Heap).Add
	_ func(*mean.Heap) int                                                          = (*mean.Heap).Len
	_ func(*mean.Heap) (int64, api.Errno)                                           = (*mean.Heap).Mean
	_ func(*mean.Heap)                                                              = (*mean.Heap).Clear
	_ func(l ...int64) (int64, api.Errno)                                           = mean.Of
	_ func(band, noise, rough int64) *ground.Ground                                 = ground.New
	_ func(*ground.Ground, int64) api.Errno                                         = (*ground.Ground).Set
	_ func(*ground.Ground) (int64, bool)                                            = (*ground.Ground).Known
	_ func(*ground.Ground, int64) bool                                              = (*ground.Ground).Near
	_ func(*ground.Ground, int64) (altitude, noise int64, near bool, e api.Errno)   = (*ground.Ground).Level
	_ func(c mode.Clock, event int, coast, out int64) mode.Clock                    = mode.Clock.On
	_ func(mode.Clock) bool                                                         = mode.Clock.Valid
	_ func(mode.Clock) bool                                                         = mode.Clock.Seeks
	_ func(events []int, coast, out int64) []mode.Clock                             = mode.Run
	_ func(api.Conf) (*channel.Channel, api.Errno)                                  = channel.New
	_ func(*channel.Channel, api.Tick) api.Told                                     = (*channel.Channel).Step
	_ func(*channel.Channel) (api.Vec, api.Sym)                                     = (*channel.Channel).State
	_ func(*channel.Channel) (mode int, since int)                                  = (*channel.Channel).Clock
	_ func(*channel.Channel) *channel.Channel                                       = (*channel.Channel).Copy
	_ func(c api.Conf, l []api.Tick) ([]api.Told, api.Errno)                        = channel.Run
	_ func(l []api.Tick) ([]byte, api.Errno)                                        = tape.Put
	_ func(b []byte) ([]api.Tick, api.Errno)                                        = tape.Get
	_ func(l []api.Told) []byte                                                     = tape.Told
	_ func(b []byte) uint64                                                         = tape.Sum
	_ func(c []api.Conf, l [][]api.Tick, workers int) ([][]api.Told, api.Errno)     = bank.Run
	_ func(l []api.Told) (int64, bool)                                              = bank.Middle
	_ func(c []api.Conf, l [][]api.Tick, workers int, most int) (int, api.Errno)    = bank.Some
	_ func(text string) string                                                      = script.Run
)

func TestErrors(t *testing.T) {
	for want, e := range []api.Errno{api.OK, api.ErrArg, api.ErrRange, api.ErrFit, api.ErrZero, api.ErrShort, api.ErrForm, api.ErrFull} {
		if int(e) != want {
			t.Error(want, e)
		}
	}
}

func TestLimits(t *testing.T) {
	for i, x := range [][2]int64{
		{api.Point, 40},
		{api.Most, 288230376151711744},
		{api.Low, 90528},
		{api.High, 430515},
		{api.Samples, 16},
		{api.MaxSteps, 4096},
		{api.MaxLanes, 16},
		{api.MaxScript, 65536},
		{api.MaxLines, 400},
	} {
		if x[0] != x[1] {
			t.Error(i, x)
		}
	}
}
