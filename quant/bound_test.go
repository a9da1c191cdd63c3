package quant_test

import (
	"math/big"
	"math/rand/v2"
	"testing"

	"cutroom/api"
	"cutroom/quant"
	"cutroom/transform"
)

// errorAt is the sum of 6.5 for the sample in row k and column l.
func errorAt(m [64]byte, q, k, l int) *big.Rat {
	sum := new(big.Rat)
	for i := range 8 {
		for j := range 8 {
			product := int64(transform.Basis(i, k) * transform.Basis(j, l) * stepOf(m, q, 8*i+j))
			term := big.NewRat(product, int64(2*norms8[i]*norms8[j]))
			sum.Add(sum, term.Abs(term))
		}
	}
	return sum
}

// boundOf is 6.5 with fractions of any size.
func boundOf(m [64]byte, q int) int {
	greatest := new(big.Rat)
	for k := range 8 {
		for l := range 8 {
			if sum := errorAt(m, q, k, l); sum.Cmp(greatest) > 0 {
				greatest = sum
			}
		}
	}
	greatest.Add(greatest, big.NewRat(1, 2))
	return int(new(big.Int).Div(greatest.Num(), greatest.Denom()).Int64())
}

func checkBound(t *testing.T, m [64]byte, q int) {
	t.Helper()
	if got, want := quant.Bound(m, q), boundOf(m, q); got != want {
		t.Errorf("Bound(%v, %d) = %d; want %d", m, q, got, want)
	}
}

func TestBound(t *testing.T) {
	for _, m := range matrices() {
		for _, q := range []int{1, 2, 3, 5, 8, 13, 21, 30, 31} {
			checkBound(t, m, q)
		}
	}
	for q := 1; q <= 31; q++ {
		checkBound(t, quant.DefaultIntra(), q)
		checkBound(t, quant.DefaultInter(), q)
	}
	random := rand.New(rand.NewPCG(6, 4))
	for range 50 {
		checkBound(t, randomMatrix(random), 1+random.IntN(31))
	}
}

// TestBoundOfOneEntry: each element's step counts, with the weight that the element has.
func TestBoundOfOneEntry(t *testing.T) {
	for k := range 64 {
		m := flat(8)
		m[k] = 255
		checkBound(t, m, 31)
	}
}

// TestBoundIsRounded: the greatest sums lie on both sides of a half, and the bound is their nearest integer.
func TestBoundIsRounded(t *testing.T) {
	up, down := 0, 0
	for entry := 8; entry < 256; entry++ {
		m := flat(byte(entry))
		checkBound(t, m, 1)
		// With equal entries all samples have the same sum, as the absolute values in one column of the transform are those in
		// any other, in an order that exchanges only rows of equal norms.
		sum := errorAt(m, 1, 0, 0)
		whole := int(new(big.Int).Div(sum.Num(), sum.Denom()).Int64())
		if quant.Bound(m, 1) > whole {
			up++
		} else {
			down++
		}
	}
	if up == 0 || down == 0 {
		t.Errorf("%d bounds are rounded up, %d down", up, down)
	}
}

// returned quantises a block of samples and computes it back.
func returned(t *testing.T, x [64]int, m [64]byte, q int) [64]int {
	t.Helper()
	y, e := transform.Forward(x)
	if e != api.OK {
		t.Fatalf("Forward(%v) = %d", x, e)
	}
	return transform.Inverse(dequantise(t, quantise(t, y, m, q), m, q))
}

// greatestError returns the greatest difference of two blocks.
func greatestError(x, y [64]int) int {
	greatest := 0
	for p := range x {
		greatest = max(greatest, x[p]-y[p], y[p]-x[p])
	}
	return greatest
}

func checkWithin(t *testing.T, x [64]int, m [64]byte, q int) {
	t.Helper()
	y := returned(t, x, m, q)
	if got, bound := greatestError(x, y), quant.Bound(m, q); got > bound {
		t.Errorf("with the quantiser %d, %v becomes %v: the error is %d; the bound is %d", q, x, y, got, bound)
	}
}

// TestErrorIsBounded is 6.6.
func TestErrorIsBounded(t *testing.T) {
	random := rand.New(rand.NewPCG(6, 5))
	for _, m := range matrices() {
		for q := 1; q <= 31; q++ {
			for _, limit := range []int{1, 16, 255} {
				var noise, extreme [64]int
				for p := range noise {
					noise[p] = random.IntN(2*limit+1) - limit
					extreme[p] = limit * (1 - 2*random.IntN(2))
				}
				checkWithin(t, noise, m, q)
				checkWithin(t, extreme, m, q)
			}
			checkWithin(t, alone(random.IntN(64), 255), m, q)
			checkWithin(t, alone(random.IntN(64), -255), m, q)
		}
	}
}

// TestErrorsThatGrow looks for great errors: samples are changed one by one as long as that makes the greatest error greater.
func TestErrorsThatGrow(t *testing.T) {
	random := rand.New(rand.NewPCG(6, 6))
	for _, m := range [][64]byte{flat(8), quant.DefaultIntra(), quant.DefaultInter()} {
		for _, q := range []int{1, 2, 4, 8} {
			var x [64]int
			greatest := 0
			for range 3000 {
				changed := x
				changed[random.IntN(64)] = random.IntN(511) - 255
				if got := greatestError(changed, returned(t, changed, m, q)); got >= greatest {
					x, greatest = changed, got
				}
			}
			checkWithin(t, x, m, q)
			if bound := quant.Bound(m, q); 4*greatest < bound {
				t.Errorf("with the quantiser %d, the greatest error found is %d; the bound is %d", q, greatest, bound)
			}
		}
	}
}
