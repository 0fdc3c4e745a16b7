// Package fixed is layer 1: see shared/doc/01-fixed.md.
package fixed

import (
	"math/bits"

	"serif/api"
)

const (
	grid      = 64       // a whole in 26.6
	half      = grid / 2 // its half
	unitShift = 14       // the bits behind the point in 2.14
	maxShift  = 30       // 2^30 is the greatest power of two that is a FIX
)

// Check: is n a FIX?
func Check(n int) api.Errno {
	if !allFix(n) {
		return api.ErrFixed
	}
	return api.OK
}

// Add: a and b.
func Add(a, b int) (int, api.Errno) {
	// The sum is reckoned only of two FIX: it can't wrap round then.
	if !allFix(a, b) || !allFix(a+b) {
		return 0, api.ErrFixed
	}
	return a + b, api.OK
}

// Sub: a without b.
func Sub(a, b int) (int, api.Errno) {
	if !allFix(a, b) || !allFix(a-b) {
		return 0, api.ErrFixed
	}
	return a - b, api.OK
}

// MulDiv: a times b by c, the nearest, halves away from 0.
func MulDiv(a, b, c int) (int, api.Errno) {
	p, by := product(a, b), magnitude(c)
	// A quotient of 2^64 or more would make Div64 panic, and is no FIX anyway; so is one by 0.
	if p.high >= by {
		return 0, api.ErrFixed
	}
	q, rest := bits.Div64(p.high, p.low, by)
	// Asked ahead of the rounding, too: the greatest quotient would wrap round to 0.
	if q > api.MaxFix {
		return 0, api.ErrFixed
	}
	if rest >= by-rest {
		q++
	}
	if q > api.MaxFix {
		return 0, api.ErrFixed
	}
	if p.negative != (c < 0) {
		return -int(q), api.OK
	}
	return int(q), api.OK
}

// Mul: a times b by a power of two.
func Mul(a, b, shift int) (int, api.Errno) {
	if shift < 0 || shift > maxShift {
		return 0, api.ErrFixed
	}
	return MulDiv(a, b, 1<<shift)
}

// Dot: a product of two vectors in 2.14, rounded once.
func Dot(ax, ay, bx, by int) (int, api.Errno) {
	if !allFix(ax, ay, bx, by) {
		return 0, api.ErrFixed
	}
	// Two products of FIX are below 2^63 together, so the sum is exact.
	return Mul(ax*bx+ay*by, 1, unitShift)
}

// Floor: down to a multiple of 64.
func Floor(n int) int {
	if !allFix(n) {
		return 0
	}
	return down(n)
}

// Ceil: up to a multiple of 64.
func Ceil(n int) int {
	if !allFix(n) {
		return 0
	}
	return -down(-n)
}

// Round: to a multiple of 64.
func Round(n int) int {
	if !allFix(n) {
		return 0
	}
	return down(n + half)
}

// Root: the square root, rounded down.
func Root(n int) int {
	if n < 0 {
		return 0
	}
	// Bit by bit in whole numbers: a root of floats is wrong near the squares above 2^53.
	root := uint64(0)
	for bit := uint64(1) << 31; bit > 0; bit >>= 1 {
		if next := root + bit; next*next <= uint64(n) {
			root = next
		}
	}
	return int(root)
}

// Less: is a by b less than c by d?
func Less(a, b, c, d int) bool {
	if b <= 0 || d <= 0 {
		return false
	}
	// Both divisors are above 0: the products across stand in the order of the quotients.
	return product(a, d).less(product(c, b))
}

// allFix: is every one of the numbers a FIX?
func allFix(ns ...int) bool {
	for _, n := range ns {
		if n < -api.MaxFix || n > api.MaxFix {
			return false
		}
	}
	return true
}

// down: the greatest multiple of 64 that is not above n.
func down(n int) int {
	// Clearing bits goes down on both sides of 0, where a division would go towards 0.
	return n &^ (grid - 1)
}

// wide is an exact product of two numbers of 64 bits: its sign and its size.
type wide struct {
	negative  bool
	high, low uint64
}

// product: a times b. It is not negative if it is 0, so that no two that are the same look different.
func product(a, b int) wide {
	high, low := bits.Mul64(magnitude(a), magnitude(b))
	return wide{(a < 0) != (b < 0) && high|low != 0, high, low}
}

// less: is p below q?
func (p wide) less(q wide) bool {
	if p.negative != q.negative {
		return p.negative
	}
	if p.negative {
		p, q = q, p
	}
	return p.high < q.high || p.high == q.high && p.low < q.low
}

// magnitude: n without its sign; unsigned, since the least integer's is no integer of 64 bits.
func magnitude(n int) uint64 {
	if n < 0 {
		return -uint64(n)
	}
	return uint64(n)
}
