package dec

import (
	"math"
	"math/bits"
)

// wide is a whole number of up to 128 bits, its size apart from its sign: what
// comes of two Decs may be beyond 64 bits till the noughts behind it are gone.
// 128 bits hold the greatest, the product of two Ms of 2^63.
type wide struct {
	below     bool
	high, low uint64
}

func widen(m int64) wide {
	if m < 0 {
		// right for the least one, too: its size is 2^63
		return wide{below: true, low: -uint64(m)}
	}
	return wide{low: uint64(m)}
}

// narrow tells w in 64 bits; false where it is beyond them.
func narrow(w wide) (int64, bool) {
	most := uint64(math.MaxInt64)
	if w.below {
		most++
	}
	if w.high > 0 || w.low > most {
		return 0, false
	}
	if w.below {
		return int64(-w.low), true
	}
	return int64(w.low), true
}

// power tells 10 to the n, up to 10 to the 19.
func power(n int) uint64 {
	p := uint64(1)
	for range n {
		p *= 10
	}
	return p
}

func isZero(w wide) bool { return w.high == 0 && w.low == 0 }

func sign(w wide) int {
	switch {
	case isZero(w):
		return 0
	case w.below:
		return -1
	}
	return 1
}

func negate(w wide) wide {
	w.below = !w.below
	return w
}

// grow tells w one further away from 0.
func grow(w wide) wide { return add(w, wide{below: w.below, low: 1}) }

func add(a, b wide) wide {
	if a.below == b.below {
		low, carry := bits.Add64(a.low, b.low, 0)
		high, _ := bits.Add64(a.high, b.high, carry)
		return wide{below: a.below, high: high, low: low}
	}
	if smaller(a, b) {
		a, b = b, a
	}
	low, borrow := bits.Sub64(a.low, b.low, 0)
	high, _ := bits.Sub64(a.high, b.high, borrow)
	return wide{below: a.below, high: high, low: low}
}

// smaller tells whether a's size is below b's.
func smaller(a, b wide) bool {
	return a.high < b.high || a.high == b.high && a.low < b.low
}

// times tells w times n.
func times(w wide, n uint64) wide {
	high, low := bits.Mul64(w.low, n)
	return wide{below: w.below, high: w.high*n + high, low: low}
}

// over tells w by n, and the size of the rest; n is not 0.
func over(w wide, n uint64) (wide, uint64) {
	low, rest := bits.Div64(w.high%n, w.low, n)
	return wide{below: w.below, high: w.high / n, low: low}, rest
}

// drop tells w without its last n digits, rounded, halves away from 0: of what
// is dropped the first digit alone tells which way.
func drop(w wide, n int) wide {
	digit := uint64(0)
	for range n {
		w, digit = over(w, 10)
	}
	if digit >= 5 {
		return grow(w)
	}
	return w
}

// shorten tells w by 10 to the s, s places or fewer, with as few as it needs.
func shorten(w wide, s int) (wide, int) {
	// nought could be shortened without an end
	if isZero(w) {
		return w, 0
	}
	for s > 0 {
		shorter, rest := over(w, 10)
		if rest > 0 {
			break
		}
		w, s = shorter, s-1
	}
	return w, s
}
