package live

import (
	"cmp"
	"math"
	"math/bits"
)

// far is a place: high times 2^64, and low. Lens may be as great as ints are, so that their sums fit neither an int nor 64 bits.
type far struct{ high, low uint64 }

// plus is the place that is n, not below 0, behind a.
func (a far) plus(n int) far {
	low, carry := bits.Add64(a.low, uint64(n), 0)
	return far{high: a.high + carry, low: low}
}

// up is a, or the next multiple of align.
func (a far) up() far {
	b := a.plus(align - 1)
	b.low -= b.low % align
	return b
}

// cmp is below 0, 0 or above 0, as a is ahead of b, b itself or behind it.
func (a far) cmp(b far) int {
	return cmp.Or(cmp.Compare(a.high, b.high), cmp.Compare(a.low, b.low))
}

// cut is a as an int: its nearest one.
func (a far) cut() int {
	if a.high > 0 || a.low > math.MaxInt {
		return math.MaxInt
	}
	return int(a.low)
}
