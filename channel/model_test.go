package channel

import (
	"math/big"

	"aneroid/api"
)

// The model is a channel by the document's words, in whole numbers of any size; no other layer is asked. It looks back over all of its ticks where a channel remembers.

// table are the document's counts, from -512 m on, every 256 m.
var table = []int64{
	430515, 417754, 405300, 393149, 381294, 369731, 358453, 347455, 336732, 326279, 316090, 306161, 296485, 287058, 277876, 268933,
	260224, 251746, 243492, 235459, 227641, 220036, 212637, 205441, 198444, 191640, 185027, 178600, 172355, 166288, 160395, 154672,
	149116, 143723, 138488, 133409, 128482, 123703, 119069, 114577, 110223, 106004, 101917, 97958, 94125, 90414, 86822,
}

func num(x int64) *big.Int             { return big.NewInt(x) }
func plus(a, b *big.Int) *big.Int      { return new(big.Int).Add(a, b) }
func less(a, b *big.Int) *big.Int      { return new(big.Int).Sub(a, b) }
func times(a, b *big.Int) *big.Int     { return new(big.Int).Mul(a, b) }
func up(a *big.Int, n uint) *big.Int   { return new(big.Int).Lsh(a, n) }
func fits(a *big.Int) bool             { return a.CmpAbs(up(num(1), 58)) <= 0 }
func lesser(a, b *big.Int) *big.Int    { return map[bool]*big.Int{true: a, false: b}[a.Cmp(b) < 0] }
func greater(a, b *big.Int) *big.Int   { return map[bool]*big.Int{true: a, false: b}[a.Cmp(b) > 0] }
func within(x, most *big.Int) *big.Int { return greater(lesser(x, most), less(num(0), most)) }

// even is a through b, which is above 0, rounded to even.
func even(a, b *big.Int) *big.Int {
	q, rest := new(big.Int).DivMod(a, b, new(big.Int))
	switch up(rest, 1).Cmp(b) {
	case 1:
		return plus(q, num(1))
	case 0:
		return plus(q, num(int64(q.Bit(0))))
	}
	return q
}

// halved is a through 2^n, rounded to even.
func halved(a *big.Int, n uint) *big.Int { return even(a, up(num(1), n)) }

// row and square are a state and a doubt.
type (
	row    [3]*big.Int
	square [3][3]*big.Int
)

func rowOf(v api.Vec) row { return row{num(v[0]), num(v[1]), num(v[2])} }

func (r row) fit() bool { return fits(r[0]) && fits(r[1]) && fits(r[2]) }

func (r row) bound(most api.Vec) row {
	for i := range r {
		r[i] = within(r[i], num(most[i]))
	}
	return r
}

// each is the square of what do answers at each place.
func each(do func(i, j int) *big.Int) square {
	var s square
	for i := range 3 {
		for j := range 3 {
			s[i][j] = do(i, j)
		}
	}
	return s
}

func diagonal(v api.Vec) square {
	return each(func(i, j int) *big.Int { return map[bool]*big.Int{true: num(v[i]), false: num(0)}[i == j] })
}

func (s square) fit() bool { return row(s[0]).fit() && row(s[1]).fit() && row(s[2]).fit() }

// tame is layer 9's.
func (s square) tame(c api.Conf) square {
	over := func(i int) *big.Int { return less(s[i][i], num(c.Floor[i])) }
	for i := range s {
		s[i][i] = lesser(greater(s[i][i], num(c.Floor[i])), num(c.Ceil[i]))
	}
	return each(func(i, j int) *big.Int {
		if i == j {
			return s[i][i]
		}
		return within(s[i][j], new(big.Int).Sqrt(times(over(i), over(j))))
	})
}

// model is a channel that remembers all ticks.
type model struct {
	conf        api.Conf
	ticks       []api.Tick
	heap        []int64
	ground      int64
	mode, since int
	state       row
	doubt       square
}

func newModel(c api.Conf) *model {
	return &model{conf: c, state: rowOf(api.Vec{}), doubt: diagonal(api.Vec{})}
}

func (m *model) copied() *model {
	d := *m
	d.ticks = append([]api.Tick{}, m.ticks...)
	d.heap = append([]int64{}, m.heap...)
	return &d
}

func good(count int64) bool { return count >= 90528 && count <= 430515 }

// heightOf is a good count's altitude.
func heightOf(count int64) *big.Int {
	i := 0
	for table[i+1] >= count {
		i++
	}
	part := new(big.Int).Div(times(up(num(256), 40), num(table[i]-count)), num(table[i]-table[i+1]))
	return plus(part, up(num(int64(256*i-512)), 40))
}

// thrust is what the feed tells of the last tick.
func (m *model) thrust() (thrust *big.Int, held, lost bool) {
	run := int64(0)
	for i := len(m.ticks) - 1; i >= 0; i-- {
		if a := m.ticks[i].Accel; a > -m.conf.Clip && a < m.conf.Clip {
			return times(num(a-m.conf.Rest), num(m.conf.Scale)), run > 0, run > m.conf.Hold
		}
		run++
	}
	return num(0), true, run > m.conf.Hold
}

func (m *model) valid() bool { return m.mode == 1 || m.mode == 2 }

// step is what a channel has to tell of one more tick.
func (m *model) step(t api.Tick) api.Told {
	m.ticks = append(m.ticks, t)
	thrust, held, lost := m.thrust()
	told := api.Told{Held: held}
	brings := t.Has && good(t.Press)
	switch {
	case lost:
		m.mode, m.since, m.heap = 3, 0, nil
	case !m.valid():
		if brings {
			m.heap = append(m.heap, t.Press)
		}
		if len(m.heap) == 16 {
			m.enter()
			told.Accepted = true
		}
	default:
		m.move(thrust, held)
		if brings {
			told.Accepted, told.Ground = m.sample(t)
			told.Refused = !told.Accepted
		}
		m.tick(told.Accepted)
	}
	told.Mode, told.Valid = m.mode, m.valid()
	if told.Valid {
		told.Alt, told.Speed, told.Bias = halved(m.state[0], 24).Int64(), halved(m.state[1], 24).Int64(), halved(m.state[2], 24).Int64()
	}
	return told
}

func (m *model) enter() {
	sum := int64(0)
	for _, count := range m.heap {
		sum += count
	}
	m.state, m.doubt = row{heightOf(sum / 16), num(0), num(0)}, diagonal(m.conf.Start)
	if m.ground == 0 {
		m.ground = sum / 16
	}
	m.mode, m.since, m.heap = 1, 0, nil
}

// tick is what a tick that isn't lost makes of a valid clock.
func (m *model) tick(taken bool) {
	m.since++
	switch {
	case taken:
		m.mode, m.since = 1, 0
	case int64(m.since) > m.conf.Out:
		m.mode, m.since, m.heap = 3, 0, nil
	case int64(m.since) >= m.conf.Coast:
		m.mode = 2
	default:
		m.mode = 1
	}
}

func (m *model) move(thrust *big.Int, held bool) {
	x := m.state
	d := less(thrust, x[2])
	next := row{plus(x[0], halved(plus(up(x[1], 8), d), 15)), plus(x[1], halved(d, 7)), x[2]}
	if fits(d) && next.fit() {
		m.state = next.bound(m.conf.Bound)
	}
	add := m.conf.Q
	if held {
		add = m.conf.Loose
	}
	f := [3][3]int64{{1 << 15, 1 << 8, -1}, {0, 1 << 15, -1 << 8}, {0, 0, 1 << 15}}
	product := each(func(i, j int) *big.Int {
		sum := num(0)
		for a := range 3 {
			for b := range 3 {
				sum = plus(sum, times(m.doubt[a][b], num(f[i][a]*f[j][b])))
			}
		}
		return halved(sum, 30)
	})
	more := diagonal(add)
	after := each(func(i, j int) *big.Int { return plus(product[i][j], more[i][j]) })
	if product.fit() && after.fit() {
		m.doubt = after.tame(m.conf)
	}
}

// sample takes a tick's count, unless it is refused; it tells whether it was taken, and whether it was near the ground.
func (m *model) sample(t api.Tick) (taken, near bool) {
	height, noise := heightOf(t.Press), num(m.conf.R)
	near = m.ground != 0 && t.Press >= m.ground-m.conf.Band
	if near {
		height, noise = greater(height, heightOf(m.ground)), num(m.conf.RGround)
	}
	surprise, width := less(height, m.state[0]), plus(m.doubt[0][0], noise)
	if times(surprise, surprise).Cmp(up(times(num(m.conf.Gate), width), 40)) > 0 {
		return false, near
	}
	k := rowOf(m.conf.Table)
	if !t.Short {
		for i := range k {
			k[i] = even(up(m.doubt[0][i], 40), width)
		}
	}
	var by, next row
	for i := range next {
		by[i] = halved(times(k[i], surprise), 40)
		next[i] = plus(m.state[i], by[i])
	}
	doubt, fit := m.joseph(k, width)
	if !fit || !fits(surprise) || !fits(width) || !k.fit() || !by.fit() || !next.fit() {
		return false, near
	}
	m.state, m.doubt = next.bound(m.conf.Bound), doubt.tame(m.conf)
	return true, near
}

// joseph is what a sample makes of the doubt, and whether all on the way fits.
func (m *model) joseph(k row, width *big.Int) (square, bool) {
	p, fit := m.doubt, true
	after := each(func(i, j int) *big.Int {
		t := halved(plus(times(k[i], p[0][j]), times(k[j], p[0][i])), 40)
		weight := halved(times(k[i], k[j]), 40)
		u := halved(times(weight, width), 40)
		rest := less(p[i][j], t)
		sum := plus(rest, u)
		fit = fit && row{t, weight, u}.fit() && row{rest, sum, sum}.fit()
		return sum
	})
	return after, fit
}

// guessed are the model's state and doubt, as a channel tells them.
func (m *model) guessed() (api.Vec, api.Sym) {
	x, p := m.state, m.doubt
	return api.Vec{x[0].Int64(), x[1].Int64(), x[2].Int64()},
		api.Sym{p[0][0].Int64(), p[0][1].Int64(), p[0][2].Int64(), p[1][1].Int64(), p[1][2].Int64(), p[2][2].Int64()}
}
