// Package num is layer 1: see shared/doc/01-num.md.
package num

import (
	"math"
	"math/bits"

	"metronome/api"
)

// Sum is the sum, if it fits, and the sums of all the first ones do.
func Sum(l ...int) (int, api.Errno) {
	sum := 0
	for _, n := range l {
		next := sum + n
		// A sum that went the wrong way has wrapped round.
		if (n < 0) != (next < sum) {
			return 0, api.ErrOver
		}
		sum = next
	}
	return sum, api.OK
}

// Mul is the product, if it fits.
func Mul(a, b int) (int, api.Errno) {
	size := times(magnitude(a), magnitude(b))
	negative := (a < 0) != (b < 0)
	most := Wide{Low: math.MaxInt}
	if negative {
		most.Low++ // the least int is one further from 0 than the greatest
	}
	if most.Less(size) {
		return 0, api.ErrOver
	}
	if negative {
		return int(-size.Low), api.OK
	}
	return int(size.Low), api.OK
}

// magnitude has no sign, so that the least int has one too.
func magnitude(n int) uint64 {
	if n < 0 {
		return -uint64(n)
	}
	return uint64(n)
}

// Wide is a number of 128 bits without a sign.
type Wide struct {
	High uint64
	Low  uint64
}

// times always fits: the greatest product is below 2 to the 128th.
func times(a, b uint64) Wide {
	high, low := bits.Mul64(a, b)
	return Wide{High: high, Low: low}
}

// Product is the product of two numbers that are no less than 0.
func Product(a, b int) (Wide, api.Errno) {
	if a < 0 || b < 0 {
		return Wide{}, api.ErrRange
	}
	return times(uint64(a), uint64(b)), api.OK
}

// Add is the sum of two, if it fits.
func (w Wide) Add(x Wide) (Wide, api.Errno) {
	low, carry := bits.Add64(w.Low, x.Low, 0)
	high, over := bits.Add64(w.High, x.High, carry)
	if over != 0 {
		return Wide{}, api.ErrOver
	}
	return Wide{High: high, Low: low}, api.OK
}

// Less tells whether a number is less than another one.
func (w Wide) Less(x Wide) bool {
	if w.High != x.High {
		return w.High < x.High
	}
	return w.Low < x.Low
}

// Less tells whether the first product is less than the second one.
func Less(a, b, c, d int) (bool, api.Errno) {
	first, e := Product(a, b)
	if e != api.OK {
		return false, e
	}
	return ask(first.Less, c, d)
}

// ask puts a question to a product, if there is one.
func ask(question func(Wide) bool, a, b int) (bool, api.Errno) {
	product, e := Product(a, b)
	if e != api.OK {
		return false, e
	}
	return question(product), api.OK
}

// Div is how often a number is in a product, rounded down or up.
func Div(a, b, c int, up bool) (int, api.Errno) {
	product, e := Product(a, b)
	if e != api.OK {
		return 0, e
	}
	if c < 0 {
		return 0, api.ErrRange
	}
	if c == 0 {
		return 0, api.ErrZero
	}
	by := uint64(c)
	// Div64 panics at a quotient that needs more than 64 bits.
	if product.High >= by {
		return 0, api.ErrOver
	}
	down, _ := bits.Div64(product.High, product.Low, by)
	if down > math.MaxInt {
		return 0, api.ErrOver
	}
	if up && times(down, by) != product {
		return Sum(int(down), 1) // rounding up may be what no longer fits
	}
	return int(down), api.OK
}

// Time is what is wrong with a time.
func Time(t int) api.Errno {
	if t < 0 {
		return api.ErrRange
	}
	if t >= api.Horizon {
		return api.ErrHorizon
	}
	return api.OK
}

// After is a time so much later, if it is ahead of the end.
func After(t, by int) (int, api.Errno) {
	if e := Time(t); e != api.OK {
		return 0, e
	}
	if by < 0 {
		return 0, api.ErrRange
	}
	// What is left up to the end is asked for, since both together may wrap round.
	if by >= api.Horizon-t {
		return 0, api.ErrHorizon
	}
	return t + by, api.OK
}
