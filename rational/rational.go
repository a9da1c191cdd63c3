// Package rational is layer 1: exact rational numbers in 64 bits. See shared/doc/01-rational.md.
package rational

import (
	"math"
	"strconv"
	"strings"

	"cutroom/api"
)

// Of returns num/den in lowest terms.
func Of(num, den int64) (api.Rat, api.Errno) {
	if den == 0 {
		return api.Rat{}, api.ErrArg
	}
	divisor := gcd(magnitude(num), magnitude(den))
	n, d := magnitude(num)/divisor, magnitude(den)/divisor
	if n > math.MaxInt64 || d > math.MaxInt64 {
		return api.Rat{}, api.ErrRange
	}
	r := api.Rat{Num: int64(n), Den: int64(d)}
	if (num < 0) != (den < 0) {
		r.Num = -r.Num
	}
	return r, api.OK
}

// Valid reports whether r is a valid rational number.
func Valid(r api.Rat) bool {
	return r.Den >= 1 && r.Num > math.MinInt64 && gcd(magnitude(r.Num), uint64(r.Den)) == 1
}

// Add returns a + b.
func Add(a, b api.Rat) (api.Rat, api.Errno) {
	if !Valid(a) || !Valid(b) {
		return api.Rat{}, api.ErrArg
	}
	// Over the least common denominator, the numerator and denominator can share only divisors of common: a divisor of a
	// factor that just one of the denominators has would divide that one's numerator too.
	common := gcd(uint64(a.Den), uint64(b.Den))
	aRest, bRest := a.Den/int64(common), b.Den/int64(common)
	num := product(a.Num, bRest).plus(product(b.Num, aRest))
	_, rest := num.divide(common)
	divisor := gcd(rest, common)
	num, _ = num.divide(divisor)
	return fit(num, product(aRest, b.Den/int64(divisor)))
}

// Sub returns a - b.
func Sub(a, b api.Rat) (api.Rat, api.Errno) {
	// The opposite of an invalid number is invalid, and that of a valid one is valid.
	return Add(a, api.Rat{Num: -b.Num, Den: b.Den})
}

// Mul returns a * b.
func Mul(a, b api.Rat) (api.Rat, api.Errno) {
	if !Valid(a) || !Valid(b) {
		return api.Rat{}, api.ErrArg
	}
	// Only a numerator and the denominator of the other number have common divisors.
	left := int64(gcd(magnitude(a.Num), uint64(b.Den)))
	right := int64(gcd(magnitude(b.Num), uint64(a.Den)))
	return fit(product(a.Num/left, b.Num/right), product(a.Den/right, b.Den/left))
}

// Div returns a / b.
func Div(a, b api.Rat) (api.Rat, api.Errno) {
	if !Valid(a) || !Valid(b) || b.Num == 0 {
		return api.Rat{}, api.ErrArg
	}
	inverse := api.Rat{Num: b.Den, Den: b.Num}
	if b.Num < 0 {
		inverse = api.Rat{Num: -b.Den, Den: -b.Num}
	}
	return Mul(a, inverse)
}

// Cmp returns -1, 0 or 1 if a is less than, equal to, or greater than b, and 0 if one of them is not valid.
func Cmp(a, b api.Rat) int {
	if !Valid(a) || !Valid(b) {
		return 0
	}
	return product(a.Num, b.Den).compare(product(b.Num, a.Den))
}

// Floor returns the greatest integer that is not greater than r, and 0 if r is not valid.
func Floor(r api.Rat) int64 {
	if !Valid(r) {
		return 0
	}
	whole, _ := floor(r)
	return whole
}

// Round returns the greatest integer that is not greater than r + 1/2, and 0 if r is not valid.
func Round(r api.Rat) int64 {
	if !Valid(r) {
		return 0
	}
	whole, rest := floor(r)
	// 2*rest could overflow. whole+1 cannot: an r that rounds up is no integer, so it is at most MaxInt64/2.
	if rest >= r.Den-rest {
		whole++
	}
	return whole
}

// MulDiv returns the greatest integer that is not greater than x*num/den, and the rest x*num - quotient*den.
func MulDiv(x, num, den int64) (quotient, rest int64, e api.Errno) {
	if den < 1 {
		return 0, 0, api.ErrArg
	}
	q, r := product(x, num).divide(uint64(den))
	quotient, ok := q.narrow()
	if !ok {
		return 0, 0, api.ErrRange
	}
	return quotient, int64(r), api.OK
}

// Format returns r as text, and an empty string if r is not valid.
func Format(r api.Rat) string {
	if !Valid(r) {
		return ""
	}
	num := strconv.FormatInt(r.Num, 10)
	if r.Den == 1 {
		return num
	}
	return num + "/" + strconv.FormatInt(r.Den, 10)
}

// Parse returns the valid number whose Format is s.
func Parse(s string) (api.Rat, api.Errno) {
	numText, denText, slash := strings.Cut(s, "/")
	if !slash {
		denText = "1"
	}
	num, numErr := strconv.ParseInt(numText, 10, 64)
	den, denErr := strconv.ParseInt(denText, 10, 64)
	r := api.Rat{Num: num, Den: den}
	// ParseInt accepts plus signs and leading zeros, which Format does not write.
	if numErr != nil || denErr != nil || !Valid(r) || Format(r) != s {
		return api.Rat{}, api.ErrForm
	}
	return r, api.OK
}

// fit returns num/den, which is in lowest terms with den greater than 0.
func fit(num, den wide) (api.Rat, api.Errno) {
	n, numFits := num.narrow()
	d, denFits := den.narrow()
	if !numFits || !denFits || n == math.MinInt64 {
		return api.Rat{}, api.ErrRange
	}
	return api.Rat{Num: n, Den: d}, api.OK
}

// floor returns the greatest integer that is not greater than a valid r, and the numerator of the rest, from 0 to r.Den-1.
func floor(r api.Rat) (whole, rest int64) {
	whole, rest = r.Num/r.Den, r.Num%r.Den
	if rest < 0 {
		return whole - 1, rest + r.Den
	}
	return whole, rest
}

// magnitude returns the absolute value of n, which is not an int64 for the least n.
func magnitude(n int64) uint64 {
	if n < 0 {
		return -uint64(n)
	}
	return uint64(n)
}

// gcd returns the greatest common divisor; that of 0 and b is b.
func gcd(a, b uint64) uint64 {
	for b != 0 {
		a, b = b, a%b
	}
	return a
}
