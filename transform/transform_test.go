package transform_test

import (
	"math"
	"math/big"
	"math/rand/v2"
	"testing"

	"cutroom/api"
	"cutroom/transform"
)

// t8 and n8 are the table of 5.1.
var t8 = [8][8]int{
	{8, 8, 8, 8, 8, 8, 8, 8},
	{12, 10, 6, 3, -3, -6, -10, -12},
	{8, 4, -4, -8, -8, -4, 4, 8},
	{10, -3, -12, -6, 6, 12, 3, -10},
	{8, -8, -8, 8, 8, -8, -8, 8},
	{6, -12, 3, 10, -10, -3, 12, -6},
	{4, -8, 8, -4, -4, 8, -8, 4},
	{3, -6, 10, -12, 12, -10, 6, -3},
}

var n8 = [8]int{512, 578, 320, 578, 512, 578, 320, 578}

// m8 are the factors M of 5.3.
var m8 = [8]int{1445, 1280, 2312, 1280, 1445, 1280, 2312, 1280}

const (
	maxSample  = 255
	maxForward = 1044480
	maxInverse = 1 << 21
)

// beyond are numbers that are greater than every index, sample or element, among them some that a smaller type turns into
// others; so are their opposites.
var beyond = []int{1 << 22, 1<<31 - 1, 1 << 31, 1 << 32, 1<<32 + 1, 1<<32 + 7, 1 << 60, 1 << 62, math.MaxInt - 1, math.MaxInt}

// alone returns a block with one element that is not 0.
func alone(place, element int) [64]int {
	var block [64]int
	block[place] = element
	return block
}

// filled returns a block of equal elements.
func filled(element int) [64]int {
	var block [64]int
	for i := range block {
		block[i] = element
	}
	return block
}

// randomBlock returns a block of elements from -limit to limit.
func randomBlock(random *rand.Rand, limit int) [64]int {
	var block [64]int
	for i := range block {
		block[i] = random.IntN(2*limit+1) - limit
	}
	return block
}

// extremeBlock returns a block of which about one in rest elements is random, and the others are -limit or limit.
func extremeBlock(random *rand.Rand, limit, rest int) [64]int {
	block := randomBlock(random, limit)
	for i := range block {
		if random.IntN(rest) > 0 {
			block[i] = limit * (1 - 2*random.IntN(2))
		}
	}
	return block
}

// patterns returns the blocks whose signs are those of the products of two rows of the matrix, with absolute values limit.
// For each element of the transformed block, one of them makes it greatest.
func patterns(limit int) [][64]int {
	var blocks [][64]int
	for i := range 8 {
		for j := range 8 {
			var block [64]int
			for p := range block {
				block[p] = limit
				if t8[i][p/8]*t8[j][p%8] < 0 {
					block[p] = -limit
				}
			}
			blocks = append(blocks, block)
		}
	}
	return blocks
}

// forwardOf is the sum of 5.2.
func forwardOf(x [64]int) [64]int {
	var y [64]int
	for i := range 8 {
		for j := range 8 {
			for k := range 8 {
				for l := range 8 {
					y[8*i+j] += t8[i][k] * t8[j][l] * x[8*k+l]
				}
			}
		}
	}
	return y
}

// inverseOf computes 5.3 with integers of any size.
func inverseOf(y [64]int) [64]int {
	scale := big.NewInt(739840)
	scale.Mul(scale, scale)
	var x [64]int
	for place := range x {
		sum := new(big.Int)
		for i := range 8 {
			for j := range 8 {
				limited := min(max(y[8*i+j], -maxInverse), maxInverse)
				factor := big.NewInt(int64(t8[i][place/8] * m8[i] * t8[j][place%8] * m8[j]))
				sum.Add(sum, factor.Mul(factor, big.NewInt(int64(limited))))
			}
		}
		// For a divisor greater than 0, Div rounds down: S/Scale^2 + 1/2 is (2*S + Scale^2) / (2*Scale^2).
		sum.Lsh(sum, 1).Add(sum, scale)
		x[place] = int(sum.Div(sum, new(big.Int).Lsh(scale, 1)).Int64())
	}
	return x
}

func forward(t *testing.T, x [64]int) [64]int {
	t.Helper()
	y, e := transform.Forward(x)
	if e != api.OK {
		t.Fatalf("Forward(%v) = %d", x, e)
	}
	return y
}

func checkForward(t *testing.T, x, want [64]int) {
	t.Helper()
	if y := forward(t, x); y != want {
		t.Errorf("Forward(%v) = %v; want %v", x, y, want)
	}
}

func checkInverse(t *testing.T, y, want [64]int) {
	t.Helper()
	if x := transform.Inverse(y); x != want {
		t.Errorf("Inverse(%v) = %v; want %v", y, x, want)
	}
}

func TestMatrix(t *testing.T) {
	for i, row := range t8 {
		for k, want := range row {
			if got := transform.Basis(i, k); got != want {
				t.Errorf("Basis(%d, %d) = %d; want %d", i, k, got, want)
			}
		}
		if got := transform.Norm(i); got != n8[i] {
			t.Errorf("Norm(%d) = %d; want %d", i, got, n8[i])
		}
	}
}

func TestNoElement(t *testing.T) {
	indexes := []int{-1, -2, -7, -8, -64, 8, 9, 15, 16, 63, 64, 255, 256, math.MinInt}
	for _, n := range beyond {
		indexes = append(indexes, n, -n)
	}
	for _, n := range indexes {
		if got := transform.Norm(n); got != 0 {
			t.Errorf("Norm(%d) = %d", n, got)
		}
		for _, m := range append([]int{0, 1, 2, 3, 4, 5, 6, 7}, indexes...) {
			if got := transform.Basis(n, m); got != 0 {
				t.Errorf("Basis(%d, %d) = %d", n, m, got)
			}
			if got := transform.Basis(m, n); got != 0 {
				t.Errorf("Basis(%d, %d) = %d", m, n, got)
			}
		}
	}
}

// TestRows: different rows are orthogonal, and the product of a row with itself is its norm.
func TestRows(t *testing.T) {
	for i := range 8 {
		for j := range 8 {
			sum, want := 0, 0
			for k := range 8 {
				sum += transform.Basis(i, k) * transform.Basis(j, k)
			}
			if i == j {
				want = transform.Norm(i)
			}
			if sum != want {
				t.Errorf("the product of rows %d and %d is %d; want %d", i, j, sum, want)
			}
		}
	}
}

// TestScale: Scale is the least number that all norms divide.
func TestScale(t *testing.T) {
	if transform.Scale != 739840 {
		t.Errorf("Scale is %d", transform.Scale)
	}
	least := 0
	for n := 1; least == 0; n++ {
		least = n
		for i := range 8 {
			if n%transform.Norm(i) != 0 {
				least = 0
				break
			}
		}
	}
	if transform.Scale != least {
		t.Errorf("Scale is %d; want %d", transform.Scale, least)
	}
	for i, m := range m8 {
		if got := transform.Scale / transform.Norm(i); got != m {
			t.Errorf("M[%d] is %d; want %d", i, got, m)
		}
	}
}

func TestExamples(t *testing.T) {
	if got := transform.Basis(1, 3); got != 3 {
		t.Errorf("Basis(1, 3) = %d", got)
	}
	checkForward(t, filled(1), alone(0, 4096))
	if y := forward(t, alone(0, 1)); y[0] != 64 || y[9] != 144 || y[63] != 9 || y[1] != 96 || y[8] != 96 {
		t.Errorf("Forward of 1 at element 0 = %v", y)
	}
	checkInverse(t, alone(0, 2048), filled(1))
}

// TestForwardOfOne: the transform of a single sample is the product of two columns of the matrix.
func TestForwardOfOne(t *testing.T) {
	for place := range 64 {
		for _, sample := range []int{1, -1, 2, 100, maxSample, -maxSample} {
			var want [64]int
			for p := range want {
				want[p] = sample * t8[p/8][place/8] * t8[p%8][place%8]
			}
			checkForward(t, alone(place, sample), want)
		}
	}
}

func TestForward(t *testing.T) {
	checkForward(t, [64]int{}, [64]int{})
	for _, x := range patterns(maxSample) {
		checkForward(t, x, forwardOf(x))
	}
	random := rand.New(rand.NewPCG(5, 2))
	for range 1000 {
		x := randomBlock(random, random.IntN(maxSample+1))
		checkForward(t, x, forwardOf(x))
		x = extremeBlock(random, maxSample, 1+random.IntN(20))
		checkForward(t, x, forwardOf(x))
	}
}

// TestForwardLimits: the elements of transformed blocks reach the limits of 5.2, and none is beyond them.
func TestForwardLimits(t *testing.T) {
	greatest, least := 0, 0
	for _, limit := range []int{maxSample, -maxSample} {
		for _, x := range patterns(limit) {
			for _, element := range forward(t, x) {
				greatest, least = max(greatest, element), min(least, element)
			}
		}
	}
	if greatest != maxForward || least != -maxForward {
		t.Errorf("the elements are from %d to %d; want -%d to %d", least, greatest, maxForward, maxForward)
	}
}

// TestForwardErrors: one sample that is out of range is an error, wherever it is and whatever the others are.
func TestForwardErrors(t *testing.T) {
	samples := []int{maxSample + 1, -maxSample - 1, maxSample + 2, 257, 511, 512, 1 << 16, 1<<16 + 1, -1 << 16, math.MinInt}
	for _, n := range beyond {
		samples = append(samples, n, -n)
	}
	for place := range 64 {
		for _, sample := range samples {
			for _, other := range []int{0, 1, -1, maxSample, -maxSample} {
				x := filled(other)
				x[place] = sample
				if y, e := transform.Forward(x); y != [64]int{} || e != api.ErrRange {
					t.Fatalf("Forward(%v) = %v, %d", x, y, e)
				}
			}
		}
	}
	for _, sample := range samples {
		if y, e := transform.Forward(filled(sample)); y != [64]int{} || e != api.ErrRange {
			t.Errorf("Forward of 64 times %d = %v, %d", sample, y, e)
		}
	}
}

// TestRounding: an element 0 of 4096 is a block of ones; halves are rounded up, also below 0.
func TestRounding(t *testing.T) {
	for element, want := range map[int]int{
		0: 0, 1: 0, 2047: 0, 2048: 1, 2049: 1, 4095: 1, 4096: 1, 4097: 1, 6143: 1, 6144: 2,
		-1: 0, -2047: 0, -2048: 0, -2049: -1, -4095: -1, -4096: -1, -4097: -1, -6144: -1, -6145: -2,
		maxForward: 255, -maxForward: -255, maxForward + 2047: 255, maxForward + 2048: 256, -maxForward - 2048: -255, -maxForward - 2049: -256,
	} {
		checkInverse(t, alone(0, element), filled(want))
	}
}

// TestInverseLimits: element 0 is limited to the result 512 or -512; a second element, which adds 1/2 or a bit less in one
// half of the rows and subtracts it in the others, shows that the limit is exact.
func TestInverseLimits(t *testing.T) {
	inRows := func(even, odd int) [64]int {
		x := filled(even)
		for p := range x {
			if t8[4][p/8] < 0 {
				x[p] = odd
			}
		}
		return x
	}
	elements := append([]int{maxInverse, maxInverse + 1, maxInverse + 2, maxInverse + 2048, maxInverse + 4096}, beyond...)
	for _, element := range elements {
		checkInverse(t, alone(0, element), filled(512))
		checkInverse(t, alone(0, -element), filled(-512))
		for second, want := range map[int][64]int{2048: inRows(513, 512), 2047: inRows(512, 512), 2049: inRows(513, 511)} {
			y := alone(0, element)
			y[32] = second
			checkInverse(t, y, want)
		}
		for second, want := range map[int][64]int{2048: inRows(-511, -512), 2047: inRows(-512, -512), 2049: inRows(-511, -513)} {
			y := alone(0, -element)
			y[32] = second
			checkInverse(t, y, want)
		}
	}
	checkInverse(t, alone(0, math.MinInt), filled(-512))
	y := alone(0, maxInverse-1)
	y[32] = 2048
	checkInverse(t, y, inRows(512, 511))
	y = alone(0, 1-maxInverse)
	y[32] = 2047
	checkInverse(t, y, inRows(-511, -512))
}

// TestInverseLimitsEverywhere: every element is limited, and alone.
func TestInverseLimitsEverywhere(t *testing.T) {
	random := rand.New(rand.NewPCG(5, 3))
	for place := range 64 {
		for _, n := range beyond {
			limited, opposite := randomBlock(random, maxInverse), randomBlock(random, maxInverse)
			limited[place], opposite[place] = maxInverse, -maxInverse
			y, z := limited, opposite
			y[place], z[place] = n, -n
			checkInverse(t, y, inverseOf(limited))
			checkInverse(t, z, inverseOf(opposite))
		}
		y := alone(place, math.MinInt)
		checkInverse(t, y, inverseOf(alone(place, -maxInverse)))
	}
}

func TestInverse(t *testing.T) {
	checkInverse(t, [64]int{}, [64]int{})
	for place := range 64 {
		for _, element := range []int{1, 100, 500, 2048, 5000, 123456, maxForward, maxInverse} {
			checkInverse(t, alone(place, element), inverseOf(alone(place, element)))
			checkInverse(t, alone(place, -element), inverseOf(alone(place, -element)))
		}
	}
	random := rand.New(rand.NewPCG(5, 4))
	for range 300 {
		y := randomBlock(random, random.IntN(1<<random.IntN(24)))
		checkInverse(t, y, inverseOf(y))
		y = extremeBlock(random, maxInverse+random.IntN(3)-1, 1+random.IntN(20))
		checkInverse(t, y, inverseOf(y))
	}
}

// TestGreatestSums: the sums that are furthest from 0 do not overflow.
func TestGreatestSums(t *testing.T) {
	for place := range 64 {
		for _, limit := range []int{maxInverse, -maxInverse, math.MaxInt, -math.MaxInt} {
			var y [64]int
			for p := range y {
				y[p] = limit
				if t8[p/8][place/8]*t8[p%8][place%8] < 0 {
					y[p] = -limit
				}
			}
			x := transform.Inverse(y)
			if x != inverseOf(y) {
				t.Errorf("Inverse(%v) = %v; want %v", y, x, inverseOf(y))
			}
			if (x[place] > 0) != (limit > 0) {
				t.Errorf("element %d of Inverse(%v) is %d", place, y, x[place])
			}
		}
	}
}

// checkReturns checks 5.4 for a block: nothing is lost, and the energy is preserved.
func checkReturns(t *testing.T, x [64]int) {
	t.Helper()
	y := forward(t, x)
	checkInverse(t, y, x)
	energy := 0
	for _, sample := range x {
		energy += sample * sample
	}
	sum := new(big.Rat)
	for p, element := range y {
		norms := int64(transform.Norm(p/8) * transform.Norm(p%8))
		sum.Add(sum, big.NewRat(int64(element)*int64(element), norms))
	}
	if sum.Cmp(big.NewRat(int64(energy), 1)) != 0 {
		t.Errorf("the energy of %v is %d; that of its transform is %s", x, energy, sum.RatString())
	}
}

func TestInverseOfForward(t *testing.T) {
	for sample := -maxSample; sample <= maxSample; sample++ {
		checkReturns(t, filled(sample))
		for place := range 64 {
			x := alone(place, sample)
			checkInverse(t, forward(t, x), x)
		}
	}
	for place := range 64 {
		checkReturns(t, alone(place, maxSample))
		checkReturns(t, alone(place, -1))
	}
	for _, x := range append(patterns(maxSample), patterns(1)...) {
		checkReturns(t, x)
	}
	random := rand.New(rand.NewPCG(5, 5))
	for range 500 {
		checkReturns(t, randomBlock(random, random.IntN(maxSample+1)))
		checkReturns(t, extremeBlock(random, maxSample, 1+random.IntN(20)))
	}
}

// TestArguments: the caller's blocks do not change.
func TestArguments(t *testing.T) {
	x, y := filled(7), filled(math.MaxInt)
	forward(t, x)
	transform.Inverse(y)
	if x != filled(7) || y != filled(math.MaxInt) {
		t.Error("an argument has changed")
	}
}
