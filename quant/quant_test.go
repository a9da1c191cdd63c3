package quant_test

import (
	"math"
	"math/big"
	"math/rand/v2"
	"testing"

	"cutroom/api"
	"cutroom/quant"
	"cutroom/transform"
)

// norms8 are the norms of the transform's rows, by chapter 5.
var norms8 = [8]int{512, 578, 320, 578, 512, 578, 320, 578}

// factors are the numbers G of 6.3, by the norms of row and column.
var factors = map[[2]int]int{
	{512, 512}: 32,
	{512, 578}: 34, {578, 512}: 34,
	{512, 320}: 25, {320, 512}: 25,
	{578, 578}: 36,
	{578, 320}: 27, {320, 578}: 27,
	{320, 320}: 20,
}

// factorOf is G for element k.
func factorOf(k int) int { return factors[[2]int{norms8[k/8], norms8[k%8]}] }

// stepOf is the step of element k.
func stepOf(m [64]byte, q, k int) int { return int(m[k]) * q * factorOf(k) }

// noQuantisers are numbers that are not quantisers, among them some that a smaller type turns into quantisers.
var noQuantisers = []int{
	0, -1, -8, -31, -255, 32, 33, 63, 64, 255, 256, 257, 1 << 16, 1<<16 + 1, 1<<32 - 1, 1 << 32, 1<<32 + 1, 1<<32 + 31, 1 << 62,
	-1<<32 + 1, -1 << 62, math.MaxInt, math.MinInt, math.MinInt + 1,
}

// flat returns a matrix of equal entries.
func flat(entry byte) [64]byte {
	var m [64]byte
	for k := range m {
		m[k] = entry
	}
	return m
}

// randomMatrix returns a valid matrix.
func randomMatrix(random *rand.Rand) [64]byte {
	var m [64]byte
	for k := range m {
		m[k] = byte(8 + random.IntN(248))
	}
	return m
}

// matrices returns valid matrices of several kinds.
func matrices() [][64]byte {
	random := rand.New(rand.NewPCG(6, 1))
	list := [][64]byte{quant.DefaultIntra(), quant.DefaultInter(), flat(8), flat(9), flat(127), flat(128), flat(255)}
	for range 5 {
		list = append(list, randomMatrix(random))
	}
	return list
}

// invalidMatrices returns matrices with one or more entries that are too small.
func invalidMatrices() [][64]byte {
	list := [][64]byte{{}, flat(1), flat(7)}
	for k := range 64 {
		for _, entry := range []byte{0, 1, 7} {
			m := flat(byte(8 + 3*k))
			m[k] = entry
			list = append(list, m)
		}
	}
	return list
}

func alone(place, element int) [64]int {
	var block [64]int
	block[place] = element
	return block
}

// quantise and dequantise fail the test if there is an error.
func quantise(t *testing.T, y [64]int, m [64]byte, q int) [64]int {
	t.Helper()
	l, e := quant.Quantise(y, m, q)
	if e != api.OK {
		t.Fatalf("Quantise(%v, %v, %d) = %d", y, m, q, e)
	}
	return l
}

func dequantise(t *testing.T, l [64]int, m [64]byte, q int) [64]int {
	t.Helper()
	y, e := quant.Dequantise(l, m, q)
	if e != api.OK {
		t.Fatalf("Dequantise(%v, %v, %d) = %d", l, m, q, e)
	}
	return y
}

func TestDefaults(t *testing.T) {
	intra := [64]byte{
		8, 16, 19, 22, 26, 27, 29, 34, 16, 16, 22, 24, 27, 29, 34, 37, 19, 22, 26, 27, 29, 34, 34, 38, 22, 22, 26, 27, 29, 34, 37, 40,
		22, 26, 27, 29, 32, 35, 40, 48, 26, 27, 29, 32, 35, 40, 48, 58, 26, 27, 29, 34, 38, 46, 56, 69, 27, 29, 35, 38, 46, 56, 69, 83,
	}
	if got := quant.DefaultIntra(); got != intra {
		t.Errorf("DefaultIntra() = %v", got)
	}
	if got := quant.DefaultInter(); got != flat(16) {
		t.Errorf("DefaultInter() = %v", got)
	}
}

func TestValid(t *testing.T) {
	for _, m := range matrices() {
		if !quant.Valid(m) {
			t.Errorf("Valid(%v) = false", m)
		}
	}
	for _, m := range invalidMatrices() {
		if quant.Valid(m) {
			t.Errorf("Valid(%v) = true", m)
		}
	}
	for k := range 64 {
		for entry := range 256 {
			m := flat(200)
			m[k] = byte(entry)
			if got := quant.Valid(m); got != (entry >= 8) {
				t.Errorf("Valid with the entry %d at %d = %t", entry, k, got)
			}
		}
	}
}

func TestStep(t *testing.T) {
	for w := -2; w <= 300; w++ {
		for q := -2; q <= 70; q++ {
			for k := -9; k <= 72; k++ {
				want := 0
				if w >= 8 && w <= 255 && q >= 1 && q <= 31 && k >= 0 && k <= 63 {
					want = w * q * factorOf(k)
				}
				if got := quant.Step(w, q, k); got != want {
					t.Fatalf("Step(%d, %d, %d) = %d; want %d", w, q, k, got, want)
				}
			}
		}
	}
}

// TestNoStep: a single argument that is out of range suffices, also if a smaller type would turn it into one that is not.
func TestNoStep(t *testing.T) {
	far := []int{math.MinInt, math.MinInt + 9, math.MaxInt, math.MaxInt - 9}
	for _, base := range []int{1 << 8, 1 << 16, 1 << 31, 1 << 32, 1 << 48, 1 << 62} {
		for _, low := range []int{0, 1, 8, 9, 31} {
			far = append(far, base+low, -base+low, -base-low)
		}
	}
	for _, n := range far {
		for _, step := range []int{quant.Step(n, 1, 0), quant.Step(16, n, 9), quant.Step(255, 31, n), quant.Step(n, n, 1), quant.Step(n, n, n)} {
			if step != 0 {
				t.Errorf("a step with the argument %d is %d", n, step)
			}
		}
	}
}

func TestExamples(t *testing.T) {
	if got := quant.Step(16, 1, 0); got != 512 {
		t.Errorf("Step(16, 1, 0) = %d", got)
	}
	if got := quant.Step(16, 2, 9); got != 1152 {
		t.Errorf("Step(16, 2, 9) = %d", got)
	}
	if l := quantise(t, alone(0, 256), quant.DefaultInter(), 1); l != alone(0, 1) {
		t.Errorf("Quantise of 256 = %v", l)
	}
	if y := dequantise(t, alone(0, -3), quant.DefaultInter(), 2); y != alone(0, -3072) {
		t.Errorf("Dequantise of -3 = %v", y)
	}
}

// checkLevel checks that an element has a level, which is 0 at all other places.
func checkLevel(t *testing.T, place, element, want int, m [64]byte, q int) {
	t.Helper()
	l, e := quant.Quantise(alone(place, element), m, q)
	if l != alone(place, want) || e != api.OK {
		t.Errorf("with the step %d, Quantise of %d at %d = %v, %d; want %d", stepOf(m, q, place), element, place, l, e, want)
	}
}

// TestRounding: halves are rounded away from 0, and everything else to the nearest integer, for even and odd steps.
func TestRounding(t *testing.T) {
	for _, m := range matrices() {
		for _, q := range []int{1, 2, 3, 17, 31} {
			for k := range 64 {
				step := stepOf(m, q, k)
				for _, level := range []int{0, 1, 2, 3, 100, api.MaxLevel - 1, api.MaxLevel} {
					last := level*step + (step-1)/2 // the greatest element that is rounded to this level
					for _, sign := range []int{1, -1} {
						checkLevel(t, k, sign*level*step, sign*level, m, q)
						checkLevel(t, k, sign*last, sign*level, m, q)
						if level < api.MaxLevel {
							checkLevel(t, k, sign*(last+1), sign*(level+1), m, q)
							checkLevel(t, k, sign*((level+1)*step-1), sign*(level+1), m, q)
						}
					}
				}
			}
		}
	}
}

// levelOf is 6.4 with integers of any size: the greatest integer that is not greater than 1/2 plus the absolute value of the
// quotient, with the sign of the element.
func levelOf(element, step int) *big.Int {
	y, s := big.NewInt(int64(element)), big.NewInt(int64(step))
	level := new(big.Int).Abs(y)
	level.Lsh(level, 1).Add(level, s)
	level.Div(level, s.Lsh(s, 1))
	if y.Sign() < 0 {
		level.Neg(level)
	}
	return level
}

// checkQuantise checks the levels of a block, or the error ErrRange, against the model.
func checkQuantise(t *testing.T, y [64]int, m [64]byte, q int) {
	t.Helper()
	var want [64]int
	wantE := api.OK
	for k, element := range y {
		level := levelOf(element, stepOf(m, q, k))
		if level.CmpAbs(big.NewInt(4095)) > 0 {
			want, wantE = [64]int{}, api.ErrRange
			break
		}
		want[k] = int(level.Int64())
	}
	if l, e := quant.Quantise(y, m, q); l != want || e != wantE {
		t.Errorf("Quantise(%v, %v, %d) = %v, %d; want %v, %d", y, m, q, l, e, want, wantE)
	}
}

func TestQuantise(t *testing.T) {
	random := rand.New(rand.NewPCG(6, 2))
	for range 2000 {
		m, q := randomMatrix(random), 1+random.IntN(31)
		var y [64]int
		limit := 1 << (1 + random.IntN(31))
		for k := range y {
			y[k] = random.IntN(2*limit+1) - limit
		}
		checkQuantise(t, y, m, q)
		for k := range y {
			step := stepOf(m, q, k)
			y[k] = (random.IntN(8191)-4095)*step + random.IntN(step) - step/2
		}
		checkQuantise(t, y, m, q)
	}
}

// TestQuantiseRange: a single level that is too great is an error, wherever it is and whatever the others are.
func TestQuantiseRange(t *testing.T) {
	for _, m := range matrices() {
		for _, q := range []int{1, 2, 30, 31} {
			for k := range 64 {
				step := stepOf(m, q, k)
				beyond := api.MaxLevel*step + (step+1)/2
				for _, element := range []int{beyond, beyond + 1, 4096 * step, 4097 * step, 1 << 32 * step, 1<<32*step + 1, 1 << 62, math.MaxInt - 1, math.MaxInt} {
					checkQuantise(t, alone(k, element), m, q)
					for _, y := range [][64]int{alone(k, element), alone(k, -element), alone(k, -element-1)} {
						y[63-k] = 2*step + 1
						if l, e := quant.Quantise(y, m, q); l != [64]int{} || e != api.ErrRange {
							t.Fatalf("with the step %d, Quantise(%v) = %v, %d", step, y, l, e)
						}
					}
				}
			}
		}
	}
}

// TestDequantise checks all levels at all elements.
func TestDequantise(t *testing.T) {
	for n, m := range matrices() {
		q := 1 + 6*n%31
		for level := -api.MaxLevel; level <= api.MaxLevel; level++ {
			var l, want [64]int
			for k := range l {
				l[k] = level
				if k%2 == 1 {
					l[k] = (level + k) % (api.MaxLevel + 1)
				}
				want[k] = l[k] * stepOf(m, q, k)
			}
			if y, e := quant.Dequantise(l, m, q); y != want || e != api.OK {
				t.Fatalf("Dequantise(%v, %v, %d) = %v, %d; want %v", l, m, q, y, e, want)
			}
		}
	}
	for q := 1; q <= 31; q++ {
		for k := range 64 {
			if y := dequantise(t, alone(k, -7), quant.DefaultIntra(), q); y != alone(k, -7*stepOf(quant.DefaultIntra(), q, k)) {
				t.Errorf("with the quantiser %d, Dequantise of -7 at %d = %v", q, k, y)
			}
		}
	}
}

func TestDequantiseRange(t *testing.T) {
	for k := range 64 {
		for _, level := range []int{4096, 4097, 8191, 8192, 1 << 16, 1<<16 + 1, 1 << 31, 1 << 32, 1<<32 + 1, 1 << 62, math.MaxInt - 1, math.MaxInt} {
			for _, n := range []int{level, -level, -level - 1} {
				l := alone(k, n)
				l[63-k] = 5
				if y, e := quant.Dequantise(l, quant.DefaultIntra(), 3); y != [64]int{} || e != api.ErrRange {
					t.Errorf("Dequantise(%v) = %v, %d", l, y, e)
				}
			}
		}
	}
}

// TestArgumentErrors: ErrArg comes before ErrRange.
func TestArgumentErrors(t *testing.T) {
	check := func(m [64]byte, q int) {
		t.Helper()
		for _, block := range [][64]int{{}, alone(0, 1), alone(63, 2000), alone(7, math.MaxInt), alone(9, math.MinInt)} {
			if l, e := quant.Quantise(block, m, q); l != [64]int{} || e != api.ErrArg {
				t.Errorf("Quantise(%v, %v, %d) = %v, %d", block, m, q, l, e)
			}
			if y, e := quant.Dequantise(block, m, q); y != [64]int{} || e != api.ErrArg {
				t.Errorf("Dequantise(%v, %v, %d) = %v, %d", block, m, q, y, e)
			}
		}
		if got := quant.Bound(m, q); got != 0 {
			t.Errorf("Bound(%v, %d) = %d", m, q, got)
		}
	}
	for _, q := range noQuantisers {
		check(quant.DefaultIntra(), q)
		check(flat(255), q)
		check(flat(7), q)
	}
	for _, m := range invalidMatrices() {
		check(m, 1)
		check(m, 31)
	}
}

// TestForwardHasLevels: no block of samples is transformed to an element without a level, with the smallest steps neither.
func TestForwardHasLevels(t *testing.T) {
	greatest := 0
	for i := range 8 {
		for j := range 8 {
			var x [64]int
			for p := range x {
				x[p] = 255
				if transform.Basis(i, p/8)*transform.Basis(j, p%8) < 0 {
					x[p] = -255
				}
			}
			y, e := transform.Forward(x)
			if e != api.OK {
				t.Fatal(e)
			}
			// Element 8*i+j of y is the greatest that a block can have.
			greatest = max(greatest, quantise(t, y, flat(8), 1)[8*i+j])
		}
	}
	if greatest != 4080 {
		t.Errorf("the greatest level is %d", greatest)
	}
}
