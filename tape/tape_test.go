package tape

import (
	"bytes"
	"math"
	"math/big"
	"slices"
	"strings"
	"testing"

	"aneroid/api"
)

// edges are numbers whose bytes differ at each place, with those on both sides of every byte's end.
var edges = []int64{
	0, 1, 2, -1, -2, 127, 128, -128, -129, 255, 256, -256, -257, 65535, 65536, -65536, -65537,
	1<<24 - 1, 1 << 24, 1<<31 - 1, 1 << 31, -1 << 31, -1<<31 - 1, 1<<32 - 1, 1 << 32, -1 << 32, 1<<40 - 1, 1 << 40,
	1<<48 - 1, 1 << 48, 1<<56 - 1, 1 << 56, 1 << 58, -1 << 58, 1 << 62, -1 << 62,
	0x0102030405060708, -0x0102030405060708, 0x7ffefdfcfbfaf9f8,
	math.MaxInt64, math.MaxInt64 - 1, math.MinInt64, math.MinInt64 + 1,
}

var size = new(big.Int).Lsh(big.NewInt(1), 64)

// draws are numbers that are the same each time.
func draws(seed uint64) func(n int64) int64 {
	return func(n int64) int64 {
		seed = seed*6364136223846793005 + 1442695040888963407
		return int64(seed>>33) % n
	}
}

// eight are a number's bytes, by the document's words: the lowest first, of one below 0 those of what it is above -2^64.
func eight(n int64) []byte {
	whole := big.NewInt(n)
	if n < 0 {
		whole.Add(whole, size)
	}
	b := whole.FillBytes(make([]byte, 8))
	slices.Reverse(b)
	return b
}

// put are ticks' bytes, by the document's words, and whether each may be.
func put(l []api.Tick) ([]byte, bool) {
	b := []byte{}
	for _, t := range l {
		if t.Press != 0 && !t.Has {
			return nil, false
		}
		var first byte
		if t.Has {
			first++
		}
		if t.Short {
			first += 2
		}
		b = append(append(b, first), eight(t.Accel)...)
		if t.Has {
			b = append(b, eight(t.Press)...)
		}
	}
	return b, true
}

// fault is the first error of bytes, by the document's words.
func fault(b []byte) api.Errno {
	for len(b) > 0 {
		n := 9
		switch b[0] {
		case 1, 3:
			n = 17
		case 0, 2:
		default:
			return api.ErrForm
		}
		if len(b) < n {
			return api.ErrShort
		}
		b = b[n:]
	}
	return api.OK
}

// told are the bytes of what was told, by the document's words.
func told(l []api.Told) []byte {
	b := []byte{}
	for _, t := range l {
		mode := new(big.Int).Mod(big.NewInt(int64(t.Mode)), big.NewInt(256))
		flags := 0
		for _, x := range []struct {
			holds bool
			mark  int
		}{{t.Valid, 1}, {t.Accepted, 2}, {t.Refused, 4}, {t.Held, 8}, {t.Ground, 16}} {
			if x.holds {
				flags += x.mark
			}
		}
		b = append(b, byte(mode.Int64()), byte(flags), 0, 0)
		b = append(b, slices.Concat(eight(t.Alt), eight(t.Speed), eight(t.Bias))...)
	}
	return b
}

// sum is the sum of bytes, by the document's words and whole numbers of any size.
func sum(b []byte) uint64 {
	so, _ := new(big.Int).SetString("14695981039346656037", 10)
	for _, x := range b {
		so.Xor(so, big.NewInt(int64(x)))
		so.Mul(so, big.NewInt(1099511628211))
		so.Mod(so, size)
	}
	return so.Uint64()
}

// same holds ticks' bytes against what is wanted, and the ticks of the bytes against the ticks.
func same(t *testing.T, l []api.Tick) []byte {
	t.Helper()
	want, may := put(l)
	got, e := Put(l)
	if !may {
		if e != api.ErrArg || len(got) != 0 {
			t.Fatal(l, got, e)
		}
		return nil
	}
	if e != api.OK || !bytes.Equal(got, want) {
		t.Fatal(l, got, e, "want", want)
	}
	back, e := Get(got)
	if e != api.OK || !slices.Equal(back, l) {
		t.Fatal(l, got, back, e)
	}
	return got
}

// read asks bytes for their ticks, and holds the error against what is wanted, and the ticks' bytes against the bytes.
func read(t *testing.T, b []byte) []api.Tick {
	t.Helper()
	kept := bytes.Clone(b)
	l, e := Get(b)
	if want := fault(b); e != want {
		t.Fatal(b, e, "want", want)
	}
	if !bytes.Equal(b, kept) {
		t.Fatal("changed", kept, b)
	}
	if e != api.OK {
		if len(l) != 0 {
			t.Fatal(b, l, e)
		}
		return nil
	}
	if back, e := Put(l); e != api.OK || !bytes.Equal(back, b) {
		t.Fatal(b, l, back, e)
	}
	return l
}

// may are the ticks of two numbers that may be on a tape.
func may(accel, press int64) []api.Tick {
	return []api.Tick{{Accel: accel}, {Accel: accel, Has: true, Press: press}, {Accel: accel, Short: true}, {Accel: accel, Has: true, Press: press, Short: true}}
}

func TestExampleOfTheDocument(t *testing.T) {
	b, e := Put([]api.Tick{{Accel: 1}})
	if e != api.OK || !bytes.Equal(b, []byte{0, 1, 0, 0, 0, 0, 0, 0, 0}) {
		t.Error(b, e)
	}
}

func TestPutWrittenOut(t *testing.T) {
	for _, x := range []struct {
		tick api.Tick
		want string
	}{
		{api.Tick{}, "\x00\x00\x00\x00\x00\x00\x00\x00\x00"},
		{api.Tick{Short: true}, "\x02\x00\x00\x00\x00\x00\x00\x00\x00"},
		{api.Tick{Has: true}, "\x01\x00\x00\x00\x00\x00\x00\x00\x00\x00\x00\x00\x00\x00\x00\x00\x00"},
		{api.Tick{Has: true, Short: true}, "\x03\x00\x00\x00\x00\x00\x00\x00\x00\x00\x00\x00\x00\x00\x00\x00\x00"},
		{api.Tick{Accel: -1}, "\x00\xff\xff\xff\xff\xff\xff\xff\xff"},
		{api.Tick{Accel: math.MaxInt64}, "\x00\xff\xff\xff\xff\xff\xff\xff\x7f"},
		{api.Tick{Accel: math.MinInt64}, "\x00\x00\x00\x00\x00\x00\x00\x00\x80"},
		{api.Tick{Accel: 0x0102030405060708, Short: true}, "\x02\x08\x07\x06\x05\x04\x03\x02\x01"},
		{api.Tick{Accel: 2048, Has: true, Press: 405300}, "\x01\x00\x08\x00\x00\x00\x00\x00\x00\x34\x2f\x06\x00\x00\x00\x00\x00"},
		{api.Tick{Accel: -2048, Has: true, Press: math.MinInt64, Short: true}, "\x03\x00\xf8\xff\xff\xff\xff\xff\xff\x00\x00\x00\x00\x00\x00\x00\x80"},
	} {
		if b, e := Put([]api.Tick{x.tick}); e != api.OK || string(b) != x.want {
			t.Errorf("%v %q %v", x.tick, b, e)
		}
		if l, e := Get([]byte(x.want)); e != api.OK || len(l) != 1 || l[0] != x.tick {
			t.Errorf("%q %v %v", x.want, l, e)
		}
	}
}

// TestThereAndBackAtTheEdges: every tick of two numbers at the edges, alone and in front of another one.
func TestThereAndBackAtTheEdges(t *testing.T) {
	for _, accel := range edges {
		for _, press := range edges {
			for _, tick := range may(accel, press) {
				same(t, []api.Tick{tick})
				same(t, []api.Tick{tick, {Accel: 7, Short: true}, tick, tick})
			}
		}
	}
}

// TestMayNotBe: one without a count whose Press isn't 0, wherever it stands, and whatever the others are.
func TestMayNotBe(t *testing.T) {
	for _, press := range edges {
		for _, short := range []bool{false, true} {
			wrong := api.Tick{Accel: 5, Press: press, Short: short}
			for n := range 4 {
				l := append(may(1, 2)[:n], wrong)
				l = append(l, may(3, 4)...)
				b, e := Put(l)
				if press == 0 {
					same(t, l)
				} else if e != api.ErrArg || len(b) != 0 {
					t.Error(l, b, e)
				}
			}
		}
	}
}

func TestOfNone(t *testing.T) {
	for _, l := range [][]api.Tick{nil, {}} {
		if b, e := Put(l); len(b) != 0 || e != api.OK {
			t.Error(b, e)
		}
	}
	for _, b := range [][]byte{nil, {}} {
		if l, e := Get(b); len(l) != 0 || e != api.OK {
			t.Error(l, e)
		}
		if n := Sum(b); n != 14695981039346656037 {
			t.Error(n)
		}
	}
	for _, l := range [][]api.Told{nil, {}} {
		if b := Told(l); len(b) != 0 {
			t.Error(b)
		}
	}
}

// TestEveryFirstByte: each byte as a tick's first, with up to forty behind it, in front and behind a tick.
func TestEveryFirstByte(t *testing.T) {
	front, _ := Put(may(-3, 405300))
	for first := range 256 {
		for n := range 41 {
			for _, filling := range []byte{0, 1, 3, 4, 255} {
				b := append([]byte{byte(first)}, bytes.Repeat([]byte{filling}, n)...)
				read(t, b)
				read(t, slices.Concat(front, b))
			}
		}
	}
}

// TestCutOff: ticks' bytes cut off anywhere are either ticks or too short.
func TestCutOff(t *testing.T) {
	whole := same(t, append(may(1, -1), may(math.MinInt64, math.MaxInt64)...))
	good := 0
	for n := range len(whole) + 1 {
		l, e := Get(whole[:n])
		if e == api.OK {
			if len(l) != good {
				t.Error(n, l)
			}
			good++
		} else if e != api.ErrShort || len(l) != 0 {
			t.Error(n, l, e)
		}
	}
	if good != 9 {
		t.Error(good)
	}
}

// TestFirstError: a first byte above 3 is told ahead of too few bytes behind it, and the first tick's error ahead of the others'.
func TestFirstError(t *testing.T) {
	nine := strings.Repeat("\x00", 9)
	for _, x := range []struct {
		b    string
		want api.Errno
	}{
		{"\x04", api.ErrForm},
		{"\x80", api.ErrForm},
		{"\xff\x00", api.ErrForm},
		{"\x04" + nine[:8], api.ErrForm},
		{"\x05" + nine + nine, api.ErrForm},
		{nine + "\x04", api.ErrForm},
		{nine + "\x07\x00", api.ErrForm},
		{nine + nine + "\x08" + nine, api.ErrForm},
		{"\x04" + nine + "\x00", api.ErrForm},
		{"\x00", api.ErrShort},
		{"\x03", api.ErrShort},
		{"\x01" + nine[:8], api.ErrShort},
		{"\x03" + nine + "\x04\x04", api.ErrShort},
		{"\x00\x04\x04\x04\x04\x04\x04\x04", api.ErrShort},
		{nine + "\x02\x04", api.ErrShort},
		{"\x00\x04\x04\x04\x04\x04\x04\x04\x04", api.OK},
		{"\x01\x04\x04\x04\x04\x04\x04\x04\x04\xff\xff\xff\xff\xff\xff\xff\xff", api.OK},
	} {
		l, e := Get([]byte(x.b))
		if e != x.want || e != api.OK && len(l) != 0 || e == api.OK && len(l) != 1 {
			t.Errorf("%q %v %v", x.b, l, e)
		}
	}
}

func TestToldWrittenOut(t *testing.T) {
	all := api.Told{Mode: 3, Valid: true, Accepted: true, Refused: true, Held: true, Ground: true, Alt: 0x0102030405060708, Speed: -1, Bias: 256}
	want := "\x03\x1f\x00\x00\x08\x07\x06\x05\x04\x03\x02\x01\xff\xff\xff\xff\xff\xff\xff\xff\x00\x01\x00\x00\x00\x00\x00\x00"
	if b := Told([]api.Told{all, {}}); string(b) != want+strings.Repeat("\x00", 28) {
		t.Errorf("%q", b)
	}
	for _, x := range []struct {
		told api.Told
		want byte
	}{{api.Told{Valid: true}, 1}, {api.Told{Accepted: true}, 2}, {api.Told{Refused: true}, 4}, {api.Told{Held: true}, 8}, {api.Told{Ground: true}, 16}} {
		b := Told([]api.Told{x.told})
		if len(b) != 28 || b[1] != x.want || bytes.Count(b, []byte{0}) != 27 {
			t.Error(x.told, b)
		}
	}
}

// TestToldAtTheEdges: every mode's lowest byte, all marks, each number at the edges.
func TestToldAtTheEdges(t *testing.T) {
	modes := []int{256, 257, 511, 1 << 32, 1<<32 + 2, -1, -2, -255, -256, -257, math.MaxInt, math.MinInt, math.MinInt + 3}
	for mode := range 256 {
		modes = append(modes, mode)
	}
	for _, mode := range modes {
		for marks := range 32 {
			for i, n := range edges[:12] {
				one := api.Told{
					Mode: mode, Valid: marks&1 != 0, Accepted: marks&2 != 0, Refused: marks&4 != 0, Held: marks&8 != 0, Ground: marks&16 != 0,
					Alt: n, Speed: edges[i+12], Bias: edges[i+24],
				}
				if got := Told([]api.Told{one}); !bytes.Equal(got, told([]api.Told{one})) || len(got) != 28 {
					t.Fatal(one, got)
				}
			}
		}
	}
	for _, alt := range edges {
		for _, speed := range edges {
			for _, bias := range edges {
				l := []api.Told{{Alt: alt, Speed: speed, Bias: bias}, {Mode: 1, Alt: bias}, {Valid: true}}
				if got := Told(l); !bytes.Equal(got, told(l)) {
					t.Fatal(l, got)
				}
			}
		}
	}
}

func TestSumWrittenOut(t *testing.T) {
	for _, x := range []struct {
		b    string
		want uint64
	}{
		{"a", 0xaf63dc4c8601ec8c},
		{"\x00", 0xaf63bd4c8601b7df},
		{"foobar", 0x85944171f73967e8},
		{"chongo was here!\n", 0x46810940eff5f915},
	} {
		if got := Sum([]byte(x.b)); got != x.want {
			t.Errorf("%q %x", x.b, got)
		}
	}
}

// TestSumOfAll: every byte alone and every two, and a long row of drawn ones.
func TestSumOfAll(t *testing.T) {
	for a := range 256 {
		one := []byte{byte(a)}
		if got, want := Sum(one), sum(one); got != want {
			t.Fatal(one, got, want)
		}
		for b := range 256 {
			two := []byte{byte(a), byte(b)}
			if got, want := Sum(two), sum(two); got != want {
				t.Fatal(two, got, want)
			}
		}
	}
	draw := draws(21)
	for n := range 300 {
		row := make([]byte, n*n/9)
		for i := range row {
			row[i] = byte(draw(256))
		}
		if got, want := Sum(row), sum(row); got != want {
			t.Fatal(n, got, want)
		}
	}
}

// TestOfDrawnTicks: drawn ticks there and back, some that may not be among them.
func TestOfDrawnTicks(t *testing.T) {
	draw := draws(63)
	number := func() int64 { return edges[draw(int64(len(edges)))] }
	for range 20000 {
		l := make([]api.Tick, draw(30))
		for i := range l {
			l[i] = may(number(), number())[draw(4)]
			if draw(200) == 0 {
				l[i].Has = false
			}
		}
		same(t, l)
	}
}

// TestOfDrawnBytes: drawn bytes, most of which begin ticks; what is told of them leads back to just these.
func TestOfDrawnBytes(t *testing.T) {
	draw := draws(212)
	counts := map[api.Errno]int{}
	for range 40000 {
		var b []byte
		for range draw(6) {
			first := byte(draw(4))
			if draw(12) == 0 {
				first = byte(draw(256))
			}
			b = append(b, first)
			n := 8 + 8*int(first&1)
			if draw(12) == 0 {
				n = int(draw(20))
			}
			for range n {
				b = append(b, byte(draw(256)))
			}
		}
		read(t, b)
		counts[fault(b)]++
	}
	if counts[api.OK] < 5000 || counts[api.ErrForm] < 5000 || counts[api.ErrShort] < 1000 {
		t.Error(counts)
	}
}

// TestLong: a tape of many ticks.
func TestLong(t *testing.T) {
	l := make([]api.Tick, 100000)
	for i := range l {
		l[i] = may(int64(i)-50000, int64(i)*4)[i%4]
	}
	if b := same(t, l); len(b) != 25000*(9+17+9+17) {
		t.Error(len(b))
	}
}

// TestMemory: what is handed in stays as it was, behind its end, too, and answers share nothing with it or with each other.
func TestMemory(t *testing.T) {
	ticks := append(may(1, 2), may(3, 4)...)
	keptTicks := slices.Clone(ticks)
	a, _ := Put(ticks[:4])
	b, _ := Put(ticks[:4])
	kept := bytes.Clone(b)
	clear(a[:cap(a)])
	if !bytes.Equal(b, kept) || !slices.Equal(ticks, keptTicks) {
		t.Error(b, ticks)
	}
	tape := append(bytes.Clone(kept), kept...)
	first, _ := Get(tape[:len(kept)])
	second, _ := Get(tape[:len(kept)])
	clear(first[:cap(first)])
	if !slices.Equal(second, keptTicks[:4]) || !bytes.Equal(tape, append(bytes.Clone(kept), kept...)) {
		t.Error(second, tape)
	}
	clear(tape)
	clear(ticks)
	if !slices.Equal(second, keptTicks[:4]) || !bytes.Equal(b, kept) {
		t.Error(second, b)
	}
	row := []api.Told{{Mode: 1, Alt: 2}, {Valid: true}}
	one, two := Told(row), Told(row)
	clear(one[:cap(one)])
	if !bytes.Equal(two, told(row)) || row[0] != (api.Told{Mode: 1, Alt: 2}) || row[1] != (api.Told{Valid: true}) {
		t.Error(two, row)
	}
	if text := []byte("tape"); Sum(text) != sum(text) || string(text) != "tape" {
		t.Error(string(text))
	}
}
