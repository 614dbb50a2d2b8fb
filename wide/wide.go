// Package wide is layer 1: whole numbers of 128 bits. See shared/doc/01-wide.md.
package wide

import (
	"math"
	"math/bits"

	"aneroid/api"
)

// width is how many bits a wide number has.
const width = 128

// Of is a number, wide.
func Of(x int64) api.Wide {
	return api.Wide{Hi: x >> 63, Lo: uint64(x)}
}

// Int is a wide number that fits.
func Int(a api.Wide) (int64, api.Errno) {
	x := int64(a.Lo)
	if Of(x) != a {
		return 0, api.ErrFit
	}
	return x, api.OK
}

// Cmp tells how two stand to one another.
func Cmp(a, b api.Wide) int {
	if a == b {
		return 0
	}
	if a.Hi < b.Hi || a.Hi == b.Hi && a.Lo < b.Lo {
		return -1
	}
	return 1
}

// Add is the sum.
func Add(a, b api.Wide) (api.Wide, api.Errno) {
	sum := plus(a, b)
	// Only two of one sign go beyond, and what is left of their sum has the other one.
	if negative(a) == negative(b) && negative(sum) != negative(a) {
		return api.Wide{}, api.ErrFit
	}
	return sum, api.OK
}

// Sub is the difference.
func Sub(a, b api.Wide) (api.Wide, api.Errno) {
	rest := minus(a, b)
	// Only two of unlike signs go beyond, and what is left has not the first one's.
	if negative(a) != negative(b) && negative(rest) != negative(a) {
		return api.Wide{}, api.ErrFit
	}
	return rest, api.OK
}

// Mul is the product.
func Mul(x, y int64) api.Wide {
	hi, lo := bits.Mul64(uint64(x), uint64(y))
	// Read without a sign, a number below 0 is 2^64 too great: so often the other one is in hi too much.
	if x < 0 {
		hi -= uint64(y)
	}
	if y < 0 {
		hi -= uint64(x)
	}
	return api.Wide{Hi: int64(hi), Lo: lo}
}

// Up is the product with a power of 2.
func Up(a api.Wide, n int) (api.Wide, api.Errno) {
	if n < 0 || n >= width {
		return api.Wide{}, api.ErrArg
	}
	up := shiftUp(a, n)
	if shiftDown(up, n) != a {
		return api.Wide{}, api.ErrFit
	}
	return up, api.OK
}

// Half is the quotient by a power of 2, rounded to even.
func Half(a api.Wide, n int) (api.Wide, api.Errno) {
	if n < 0 || n >= width {
		return api.Wide{}, api.ErrArg
	}
	// There is no half of 2^0 to hold the rest against.
	if n == 0 {
		return a, api.OK
	}
	q := shiftDown(a, n)
	rest := minus(a, shiftUp(q, n))
	return nearest(q, Cmp(rest, shiftUp(Of(1), n-1))), api.OK
}

// Div is the quotient, rounded down.
func Div(a api.Wide, b int64) (api.Wide, api.Errno) {
	q, _, e := floor(a, b)
	return q, e
}

// Even is the quotient, rounded to even.
func Even(a api.Wide, b int64) (api.Wide, api.Errno) {
	q, rest, e := floor(a, b)
	if e != api.OK {
		return api.Wide{}, e
	}
	left := size(b) - rest
	return nearest(q, Cmp(api.Wide{Lo: rest}, api.Wide{Lo: left})), api.OK
}

// nearest is a quotient that was rounded down, rounded to even; side tells how its rest stands to one half.
func nearest(q api.Wide, side int) api.Wide {
	odd := q.Lo&1 == 1
	if side > 0 || side == 0 && odd {
		return plus(q, Of(1))
	}
	return q
}

// floor is the quotient, rounded down, and by how many parts of b's size it is too small.
func floor(a api.Wide, b int64) (api.Wide, uint64, api.Errno) {
	if b == 0 {
		return api.Wide{}, 0, api.ErrZero
	}
	// Every other quotient is a, or no further from 0 than 2^127 - 1.
	if a == (api.Wide{Hi: math.MinInt64}) && b == -1 {
		return api.Wide{}, 0, api.ErrFit
	}
	q, rest := divide(wideSize(a), size(b))
	if negative(a) == (b < 0) {
		return q, rest, api.OK
	}
	q = minus(Of(0), q)
	if rest == 0 {
		return q, 0, api.OK
	}
	return minus(q, Of(1)), size(b) - rest, api.OK
}

// divide is quotient and rest of a, read without a sign, by b, from 1 to 2^63.
func divide(a api.Wide, b uint64) (api.Wide, uint64) {
	hi, lo := uint64(a.Hi), a.Lo
	rest := uint64(0)
	left := width
	// The rest is below 2^63 ahead of each bit, so no bit of it is lost.
	// A bit of the quotient comes in where one of a has gone out.
nextBit:
	rest = rest<<1 | hi>>63
	hi = hi<<1 | lo>>63
	lo <<= 1
	if rest >= b {
		rest -= b
		lo |= 1
	}
	left--
	if left > 0 {
		goto nextBit
	}
	return api.Wide{Hi: int64(hi), Lo: lo}, rest
}

func negative(a api.Wide) bool { return a.Hi < 0 }

// size is how far x is from 0; 2^63 of -2^63.
func size(x int64) uint64 {
	if x < 0 {
		return -uint64(x)
	}
	return uint64(x)
}

// wideSize is how far a is from 0, to be read without a sign, as that of -2^127 is 2^127.
func wideSize(a api.Wide) api.Wide {
	if negative(a) {
		return minus(Of(0), a)
	}
	return a
}

// plus is the sum modulo 2^128.
func plus(a, b api.Wide) api.Wide {
	lo, carry := bits.Add64(a.Lo, b.Lo, 0)
	hi, _ := bits.Add64(uint64(a.Hi), uint64(b.Hi), carry)
	return api.Wide{Hi: int64(hi), Lo: lo}
}

// minus is the difference modulo 2^128.
func minus(a, b api.Wide) api.Wide {
	lo, borrow := bits.Sub64(a.Lo, b.Lo, 0)
	hi, _ := bits.Sub64(uint64(a.Hi), uint64(b.Hi), borrow)
	return api.Wide{Hi: int64(hi), Lo: lo}
}

// shiftUp is a times 2^n modulo 2^128, n from 0 to 127.
func shiftUp(a api.Wide, n int) api.Wide {
	if n >= 64 {
		return api.Wide{Hi: int64(a.Lo << (n - 64))}
	}
	return api.Wide{Hi: a.Hi<<n | int64(a.Lo>>(64-n)), Lo: a.Lo << n}
}

// shiftDown is a through 2^n, rounded down, n from 0 to 127.
func shiftDown(a api.Wide, n int) api.Wide {
	if n >= 64 {
		return Of(a.Hi >> (n - 64))
	}
	return api.Wide{Hi: a.Hi >> n, Lo: a.Lo>>n | uint64(a.Hi)<<(64-n)}
}
