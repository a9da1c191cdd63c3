package rational

import (
	"cmp"
	"math/bits"
)

// wide is an integer of 128 bits in two's complement: every product of two numbers of 64 bits, and the sum of two products
// of numerators and denominators, fits.
type wide struct {
	hi int64
	lo uint64
}

// product returns x * y.
func product(x, y int64) wide {
	hi, lo := bits.Mul64(uint64(x), uint64(y))
	// Mul64 takes a negative factor for one that is greater by 2^64.
	if x < 0 {
		hi -= uint64(y)
	}
	if y < 0 {
		hi -= uint64(x)
	}
	return wide{hi: int64(hi), lo: lo}
}

func (v wide) plus(w wide) wide {
	lo, carry := bits.Add64(v.lo, w.lo, 0)
	hi, _ := bits.Add64(uint64(v.hi), uint64(w.hi), carry)
	return wide{hi: int64(hi), lo: lo}
}

func (v wide) compare(w wide) int {
	if v.hi != w.hi {
		return cmp.Compare(v.hi, w.hi)
	}
	return cmp.Compare(v.lo, w.lo)
}

// complement returns -v - 1, which is representable for every v.
func (v wide) complement() wide { return wide{hi: ^v.hi, lo: ^v.lo} }

// divide returns the greatest integer that is not greater than v/den, and the rest. den is at least 1.
func (v wide) divide(den uint64) (quotient wide, rest uint64) {
	if v.hi < 0 {
		// With -v-1 = q*den + r, v is (-q-1)*den + (den-1-r): the complement rounds down where its argument did.
		q, r := v.complement().divide(den)
		return q.complement(), den - 1 - r
	}
	hi, rest := uint64(v.hi)/den, uint64(v.hi)%den
	lo, rest := bits.Div64(rest, v.lo, den)
	return wide{hi: int64(hi), lo: lo}, rest
}

// narrow returns v in 64 bits, and whether it fits.
func (v wide) narrow() (int64, bool) {
	n := int64(v.lo)
	if v.hi != n>>63 {
		return 0, false
	}
	return n, true
}
