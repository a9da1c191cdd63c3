package rational_test

import (
	"math"
	"math/big"
	"math/rand/v2"
	"strconv"
	"testing"

	"cutroom/api"
	"cutroom/rational"
)

const prime = math.MaxInt64 - 24 // the greatest prime of 63 bits

// edges are the numbers at which results begin to overflow, and small ones with and without common divisors.
var edges = []int64{
	math.MinInt64, math.MinInt64 + 1, math.MinInt64 + 2, -prime, -1 << 62, -1<<32 - 1, -1 << 31, -30000, -6, -4, -3, -2, -1,
	0, 1, 2, 3, 4, 6, 1001, 48000, 1<<31 - 1, 1 << 31, 1<<31 + 1, 1 << 32, 3037000499, 3037000500, 1 << 62, prime,
	math.MaxInt64 - 1, math.MaxInt64,
}

// rats are numbers of all kinds, among them invalid ones.
func rats() []api.Rat {
	var l []api.Rat
	for i, num := range edges {
		for j, den := range edges {
			if (i+j)%3 == 0 || num == math.MaxInt64 || den == math.MaxInt64 || den == 1 {
				l = append(l, api.Rat{Num: num, Den: den})
			}
		}
	}
	return l
}

// isValid states the definition of 1.1 in other words.
func isValid(r api.Rat) bool {
	if r.Den < 1 || r.Num == math.MinInt64 {
		return false
	}
	lowest := big.NewRat(r.Num, r.Den)
	return lowest.Num().Int64() == r.Num && lowest.Denom().Int64() == r.Den
}

// narrowed returns the result that the chapter requires for the exact result x.
func narrowed(x *big.Rat) (api.Rat, api.Errno) {
	if !x.Num().IsInt64() || x.Num().Int64() == math.MinInt64 || !x.Denom().IsInt64() {
		return api.Rat{}, api.ErrRange
	}
	return api.Rat{Num: x.Num().Int64(), Den: x.Denom().Int64()}, api.OK
}

// exact returns a valid r.
func exact(r api.Rat) *big.Rat { return big.NewRat(r.Num, r.Den) }

// floored returns the greatest integer that is not greater than x.
func floored(x *big.Rat) *big.Int {
	// With a positive divisor, Euclidean division rounds down.
	return new(big.Int).Div(x.Num(), x.Denom())
}

// rounded returns the greatest integer that is not greater than x + 1/2.
func rounded(x *big.Rat) *big.Int { return floored(new(big.Rat).Add(x, big.NewRat(1, 2))) }

func TestOf(t *testing.T) {
	for _, num := range edges {
		for _, den := range edges {
			want, wantError := api.Rat{}, api.ErrArg
			if den != 0 {
				want, wantError = narrowed(new(big.Rat).SetFrac(big.NewInt(num), big.NewInt(den)))
			}
			if r, e := rational.Of(num, den); r != want || e != wantError {
				t.Errorf("Of(%d, %d) = %v, %d; want %v, %d", num, den, r, e, want, wantError)
			}
		}
	}
}

func TestOfExamples(t *testing.T) {
	for _, c := range []struct {
		num, den int64
		want     api.Rat
		e        api.Errno
	}{
		{30000, 1001, api.Rat{Num: 30000, Den: 1001}, api.OK},
		{6, -4, api.Rat{Num: -3, Den: 2}, api.OK},
		{-6, -4, api.Rat{Num: 3, Den: 2}, api.OK},
		{0, -5, api.Rat{Num: 0, Den: 1}, api.OK},
		{0, 0, api.Rat{}, api.ErrArg},
		{math.MinInt64, 0, api.Rat{}, api.ErrArg},
		{math.MinInt64, -1, api.Rat{}, api.ErrRange},
		{math.MinInt64, 3, api.Rat{}, api.ErrRange},
		{math.MinInt64, -6, api.Rat{Num: 1 << 62, Den: 3}, api.OK},
		{0, math.MinInt64, api.Rat{Num: 0, Den: 1}, api.OK},
		{-6, math.MinInt64, api.Rat{Num: 3, Den: 1 << 62}, api.OK},
		{math.MinInt64 + 1, 1, api.Rat{Num: -math.MaxInt64, Den: 1}, api.OK},
	} {
		if r, e := rational.Of(c.num, c.den); r != c.want || e != c.e {
			t.Errorf("Of(%d, %d) = %v, %d", c.num, c.den, r, e)
		}
	}
}

func TestValid(t *testing.T) {
	for _, num := range edges {
		for _, den := range edges {
			r := api.Rat{Num: num, Den: den}
			if rational.Valid(r) != isValid(r) {
				t.Errorf("Valid(%v) is not %v", r, isValid(r))
			}
		}
	}
	for r, want := range map[api.Rat]bool{
		{}: false, {Num: 0, Den: 1}: true, {Num: 0, Den: 3}: false, {Num: 3, Den: 3}: false, {Num: -3, Den: 1}: true,
		{Num: 3, Den: -1}: false, {Num: 3, Den: 0}: false, {Num: math.MinInt64, Den: 1}: false,
		{Num: math.MinInt64, Den: 3}: false, {Num: -math.MaxInt64, Den: 1}: true,
		{Num: 1, Den: math.MinInt64}: false, {Num: math.MaxInt64, Den: math.MaxInt64 - 1}: true,
	} {
		if rational.Valid(r) != want {
			t.Errorf("Valid(%v) is not %v", r, want)
		}
	}
}

// operation is an operation of the package beside its exact counterpart.
type operation struct {
	name string
	f    func(a, b api.Rat) (api.Rat, api.Errno)
	want func(a, b *big.Rat) *big.Rat
}

func operations() []operation {
	return []operation{
		{"Add", rational.Add, func(a, b *big.Rat) *big.Rat { return new(big.Rat).Add(a, b) }},
		{"Sub", rational.Sub, func(a, b *big.Rat) *big.Rat { return new(big.Rat).Sub(a, b) }},
		{"Mul", rational.Mul, func(a, b *big.Rat) *big.Rat { return new(big.Rat).Mul(a, b) }},
		{"Div", rational.Div, func(a, b *big.Rat) *big.Rat { return new(big.Rat).Quo(a, b) }},
	}
}

func (o operation) check(t *testing.T, a, b api.Rat) {
	t.Helper()
	want, wantError := api.Rat{}, api.ErrArg
	if isValid(a) && isValid(b) && (o.name != "Div" || b.Num != 0) {
		want, wantError = narrowed(o.want(exact(a), exact(b)))
	}
	if r, e := o.f(a, b); r != want || e != wantError {
		t.Errorf("%s(%v, %v) = %v, %d; want %v, %d", o.name, a, b, r, e, want, wantError)
	}
}

func TestArithmetic(t *testing.T) {
	l := rats()
	for _, o := range operations() {
		for _, a := range l {
			for _, b := range l {
				o.check(t, a, b)
			}
		}
	}
}

// number returns a valid number whose parts have bits bits.
func number(random *rand.Rand, bits int) api.Rat {
	num := random.Int64N(1<<bits) - 1<<(bits-1)
	r, _ := rational.Of(num, 1+random.Int64N(1<<bits))
	return r
}

func TestArithmeticOfRandomNumbers(t *testing.T) {
	random := rand.New(rand.NewPCG(1, 2))
	for range 20000 {
		// With 5 bits, common divisors are frequent; with 62 bits, overflows; with 31 bits, results that just fit.
		for _, bits := range []int{5, 16, 31, 32, 62} {
			a, b := number(random, bits), number(random, bits)
			for _, o := range operations() {
				o.check(t, a, b)
			}
			checkCompared(t, a, b)
		}
	}
}

func TestArithmeticExamples(t *testing.T) {
	greatest, least := api.Rat{Num: math.MaxInt64, Den: 1}, api.Rat{Num: -math.MaxInt64, Den: 1}
	one, zero := api.Rat{Num: 1, Den: 1}, api.Rat{Num: 0, Den: 1}
	tiny := api.Rat{Num: 1, Den: math.MaxInt64}
	for i, c := range []struct {
		f    func(a, b api.Rat) (api.Rat, api.Errno)
		a, b api.Rat
		want api.Rat
		e    api.Errno
	}{
		{rational.Add, api.Rat{Num: 1, Den: 2}, api.Rat{Num: 1, Den: 3}, api.Rat{Num: 5, Den: 6}, api.OK},
		{rational.Add, api.Rat{Num: 1, Den: 6}, api.Rat{Num: 1, Den: 10}, api.Rat{Num: 4, Den: 15}, api.OK},
		{rational.Add, least, greatest, zero, api.OK},
		{rational.Add, greatest, one, api.Rat{}, api.ErrRange},
		{rational.Add, greatest, tiny, api.Rat{}, api.ErrRange},
		// The result would be {-2^63, 1}, which is an int64 but not valid.
		{rational.Sub, least, one, api.Rat{}, api.ErrRange},
		{rational.Sub, tiny, tiny, zero, api.OK},
		{rational.Sub, one, api.Rat{Num: math.MinInt64, Den: 1}, api.Rat{}, api.ErrArg},
		{rational.Mul, api.Rat{Num: 1 << 62, Den: 1}, api.Rat{Num: -2, Den: 1}, api.Rat{}, api.ErrRange},
		{rational.Mul, greatest, tiny, one, api.OK},
		{rational.Mul, tiny, api.Rat{Num: 1, Den: 2}, api.Rat{}, api.ErrRange},
		{rational.Mul, zero, tiny, zero, api.OK},
		{rational.Div, greatest, least, api.Rat{Num: -1, Den: 1}, api.OK},
		{rational.Div, one, least, api.Rat{Num: -1, Den: math.MaxInt64}, api.OK},
		{rational.Div, zero, least, zero, api.OK},
		{rational.Div, zero, zero, api.Rat{}, api.ErrArg},
		{rational.Div, greatest, tiny, api.Rat{}, api.ErrRange},
		// The inverses of these are valid, but they are not.
		{rational.Div, one, api.Rat{Num: 3, Den: -2}, api.Rat{}, api.ErrArg},
		{rational.Div, one, api.Rat{Num: -3, Den: -2}, api.Rat{}, api.ErrArg},
		{rational.Div, one, api.Rat{Num: 2, Den: 2}, api.Rat{}, api.ErrArg},
		{rational.Div, api.Rat{}, one, api.Rat{}, api.ErrArg},
	} {
		if r, e := c.f(c.a, c.b); r != c.want || e != c.e {
			t.Errorf("%d: %v, %v: %v, %d; want %v, %d", i, c.a, c.b, r, e, c.want, c.e)
		}
	}
}

func checkCompared(t *testing.T, a, b api.Rat) {
	t.Helper()
	want := 0
	if isValid(a) && isValid(b) {
		want = exact(a).Cmp(exact(b))
	}
	if got := rational.Cmp(a, b); got != want {
		t.Errorf("Cmp(%v, %v) = %d; want %d", a, b, got, want)
	}
}

func TestCmp(t *testing.T) {
	l := rats()
	// Neighbors whose products with the other's denominator differ by 1.
	l = append(l, api.Rat{Num: math.MaxInt64 - 1, Den: math.MaxInt64}, api.Rat{Num: math.MaxInt64 - 2, Den: math.MaxInt64 - 1})
	for _, a := range l {
		for _, b := range l {
			checkCompared(t, a, b)
		}
	}
}

func TestFloorAndRound(t *testing.T) {
	var l []api.Rat
	for num := int64(-40); num <= 40; num++ {
		for den := int64(-1); den <= 12; den++ {
			l = append(l, api.Rat{Num: num, Den: den})
		}
	}
	l = append(l, rats()...)
	for _, r := range l {
		floor, round := int64(0), int64(0)
		if isValid(r) {
			floor, round = floored(exact(r)).Int64(), rounded(exact(r)).Int64()
		}
		if got := rational.Floor(r); got != floor {
			t.Errorf("Floor(%v) = %d; want %d", r, got, floor)
		}
		if got := rational.Round(r); got != round {
			t.Errorf("Round(%v) = %d; want %d", r, got, round)
		}
	}
}

func TestRoundsHalvesUp(t *testing.T) {
	for r, want := range map[api.Rat]int64{
		{Num: -1, Den: 2}: 0, {Num: 1, Den: 2}: 1, {Num: -3, Den: 2}: -1, {Num: 3, Den: 2}: 2, {Num: -5, Den: 3}: -2,
		{Num: math.MaxInt64, Den: 2}: 1 << 62, {Num: -math.MaxInt64, Den: 2}: -1<<62 + 1,
		{Num: math.MaxInt64 - 1, Den: math.MaxInt64}: 1, {Num: 1 << 62, Den: math.MaxInt64}: 1,
		{Num: 1<<62 - 1, Den: math.MaxInt64}: 0, {Num: math.MaxInt64, Den: 1}: math.MaxInt64,
	} {
		if got := rational.Round(r); got != want {
			t.Errorf("Round(%v) = %d; want %d", r, got, want)
		}
	}
}

func TestMulDiv(t *testing.T) {
	for _, x := range edges {
		for _, num := range edges {
			for _, den := range edges {
				checkMulDiv(t, x, num, den)
			}
		}
	}
	random := rand.New(rand.NewPCG(3, 4))
	for range 100000 {
		checkMulDiv(t, int64(random.Uint64()), random.Int64()-1<<62, 1+random.Int64N(math.MaxInt64))
	}
}

func checkMulDiv(t *testing.T, x, num, den int64) {
	t.Helper()
	wantQuotient, wantRest, wantError := int64(0), int64(0), api.ErrArg
	if den >= 1 {
		q, r := new(big.Int).DivMod(new(big.Int).Mul(big.NewInt(x), big.NewInt(num)), big.NewInt(den), new(big.Int))
		wantError = api.ErrRange
		if q.IsInt64() {
			wantQuotient, wantRest, wantError = q.Int64(), r.Int64(), api.OK
		}
	}
	q, r, e := rational.MulDiv(x, num, den)
	if q != wantQuotient || r != wantRest || e != wantError {
		t.Errorf("MulDiv(%d, %d, %d) = %d, %d, %d; want %d, %d, %d", x, num, den, q, r, e, wantQuotient, wantRest, wantError)
	}
}

func TestMulDivExamples(t *testing.T) {
	for _, c := range []struct {
		x, num, den, quotient, rest int64
		e                           api.Errno
	}{
		{-7, 1, 2, -4, 1, api.OK},
		{7, -1, 2, -4, 1, api.OK},
		{-7, -1, 2, 3, 1, api.OK},
		{-8, 1, 2, -4, 0, api.OK},
		{-1, 1, math.MaxInt64, -1, math.MaxInt64 - 1, api.OK},
		{math.MinInt64, 1, 1, math.MinInt64, 0, api.OK},
		{math.MinInt64, -1, 1, 0, 0, api.ErrRange},
		// -2^63 - 1/2 is rounded down to -2^63 - 1, which is not an int64.
		{math.MinInt64, math.MaxInt64, math.MaxInt64 - 1, 0, 0, api.ErrRange},
		{math.MaxInt64, math.MaxInt64, math.MaxInt64, math.MaxInt64, 0, api.OK},
		{math.MaxInt64, math.MaxInt64, 1, 0, 0, api.ErrRange},
		{1, 1, 0, 0, 0, api.ErrArg},
		{1, 1, -1, 0, 0, api.ErrArg},
		{math.MaxInt64, math.MaxInt64, math.MinInt64, 0, 0, api.ErrArg},
	} {
		if q, r, e := rational.MulDiv(c.x, c.num, c.den); q != c.quotient || r != c.rest || e != c.e {
			t.Errorf("MulDiv(%d, %d, %d) = %d, %d, %d", c.x, c.num, c.den, q, r, e)
		}
	}
}

// limit is the greatest numerator and denominator of a scale.
const limit = 1 << 31

// isScale states the condition of 1.5 in other words.
func isScale(r api.Rat) bool {
	return isValid(r) && r.Num > 0 && r.Num <= limit && r.Den <= limit
}

func checkPosition(t *testing.T, n int64, from, to api.Rat) {
	t.Helper()
	want, wantError := int64(0), api.ErrArg
	if isScale(from) && isScale(to) {
		x := new(big.Rat).Mul(new(big.Rat).SetInt64(n), new(big.Rat).Quo(exact(to), exact(from)))
		wantError = api.ErrRange
		if p := rounded(x); p.IsInt64() {
			want, wantError = p.Int64(), api.OK
		}
	}
	if got, e := rational.Position(n, from, to); got != want || e != wantError {
		t.Errorf("Position(%d, %v, %v) = %d, %d; want %d, %d", n, from, to, got, e, want, wantError)
	}
}

// frameRates are usual and unusual frame rates.
func frameRates() []api.Rat {
	return []api.Rat{
		{Num: 24000, Den: 1001}, {Num: 24, Den: 1}, {Num: 25, Den: 1}, {Num: 30000, Den: 1001}, {Num: 30, Den: 1},
		{Num: 50, Den: 1}, {Num: 60000, Den: 1001}, {Num: 60, Den: 1}, {Num: 12, Den: 1}, {Num: 15, Den: 2}, {Num: 1, Den: 7},
	}
}

// soundRates are rates of sound, of clocks, and of frames.
func soundRates() []api.Rat {
	return append(frameRates(), api.Rat{Num: api.AudioRate, Den: 1}, api.Rat{Num: 44100, Den: 1}, api.Rat{Num: 90000, Den: 1},
		api.Rat{Num: 27000000, Den: 1}, api.Rat{Num: api.AudioRate, Den: 1001})
}

func TestPositionsOfFrames(t *testing.T) {
	for _, from := range frameRates() {
		for _, to := range soundRates() {
			for n := int64(-1200); n <= 1200; n++ {
				checkPosition(t, n, from, to)
			}
		}
	}
}

func TestPositionAtTheLimits(t *testing.T) {
	var scales []api.Rat
	for _, num := range []int64{math.MinInt64, -1, 0, 1, 2, 3, 48000, limit - 1, limit, limit + 1, math.MaxInt64} {
		for _, den := range []int64{-1, 0, 1, 2, 1001, limit - 1, limit, limit + 1, math.MaxInt64} {
			scales = append(scales, api.Rat{Num: num, Den: den})
		}
	}
	for _, from := range scales {
		for _, to := range scales {
			for _, n := range edges {
				checkPosition(t, n, from, to)
			}
		}
	}
}

// TestPositionAtTheEndOfTheNumbers tests the units whose positions are the first ones that are not representable.
func TestPositionAtTheEndOfTheNumbers(t *testing.T) {
	scales := append(soundRates(), api.Rat{Num: 5, Den: 3}, api.Rat{Num: 274177, Den: 2}, api.Rat{Num: limit, Den: limit - 1},
		api.Rat{Num: limit - 1, Den: limit}, api.Rat{Num: limit, Den: 1}, api.Rat{Num: 1, Den: 1})
	for _, from := range scales {
		for _, to := range scales {
			for _, end := range []int64{math.MinInt64, math.MaxInt64} {
				last := floored(new(big.Rat).Mul(new(big.Rat).SetInt64(end), new(big.Rat).Quo(exact(from), exact(to))))
				for by := int64(-4); by <= 4; by++ {
					if n := new(big.Int).Add(last, big.NewInt(by)); n.IsInt64() {
						checkPosition(t, n.Int64(), from, to)
					}
				}
			}
		}
	}
}

func TestPositionExamples(t *testing.T) {
	one, film := api.Rat{Num: 1, Den: 1}, api.Rat{Num: 30000, Den: 1001}
	sound, most := api.Rat{Num: api.AudioRate, Den: 1}, api.Rat{Num: limit, Den: 1}
	for _, c := range []struct {
		n        int64
		from, to api.Rat
		want     int64
		e        api.Errno
	}{
		{30, film, sound, 48048, api.OK},
		{48048, sound, film, 30, api.OK},
		{1, one, api.Rat{Num: 1, Den: 2}, 1, api.OK},
		{-1, one, api.Rat{Num: 1, Den: 2}, 0, api.OK},
		{math.MinInt64, one, one, math.MinInt64, api.OK},
		{math.MaxInt64, film, film, math.MaxInt64, api.OK},
		{1, api.Rat{Num: 1, Den: limit}, most, 1 << 62, api.OK},
		{2, api.Rat{Num: 1, Den: limit}, most, 0, api.ErrRange},
		{-2, api.Rat{Num: 1, Den: limit}, most, math.MinInt64, api.OK},
		// -2^63 - 1/3 and -2^63 - 1/2 are nearest to -2^63.
		{-5534023222112865485, one, api.Rat{Num: 5, Den: 3}, math.MinInt64, api.OK},
		{-67280421310721, one, api.Rat{Num: 274177, Den: 2}, math.MinInt64, api.OK},
		{67280421310721, one, api.Rat{Num: 274177, Den: 2}, 0, api.ErrRange},
		{1, most, api.Rat{Num: 1, Den: limit}, 0, api.OK},
		{1, api.Rat{Num: limit + 1, Den: 1}, one, 0, api.ErrArg},
		{1, one, api.Rat{Num: limit + 1, Den: 1}, 0, api.ErrArg},
		{1, one, api.Rat{Num: 1, Den: limit + 1}, 0, api.ErrArg},
		{1, api.Rat{Num: 1, Den: limit + 1}, one, 0, api.ErrArg},
		{0, api.Rat{Num: 0, Den: 1}, one, 0, api.ErrArg},
		{0, one, api.Rat{Num: 0, Den: 1}, 0, api.ErrArg},
		{0, one, api.Rat{Num: -1, Den: 1}, 0, api.ErrArg},
		{0, api.Rat{Num: 60, Den: 2}, one, 0, api.ErrArg},
		{0, one, api.Rat{}, 0, api.ErrArg},
	} {
		if got, e := rational.Position(c.n, c.from, c.to); got != c.want || e != c.e {
			t.Errorf("Position(%d, %v, %v) = %d, %d; want %d, %d", c.n, c.from, c.to, got, e, c.want, c.e)
		}
	}
}

func TestText(t *testing.T) {
	for _, r := range rats() {
		text := rational.Format(r)
		if !isValid(r) {
			if text != "" {
				t.Errorf("Format(%v) = %q", r, text)
			}
			continue
		}
		want := strconv.FormatInt(r.Num, 10)
		if r.Den != 1 {
			want += "/" + strconv.FormatInt(r.Den, 10)
		}
		if text != want {
			t.Errorf("Format(%v) = %q; want %q", r, text, want)
		}
		if back, e := rational.Parse(text); back != r || e != api.OK {
			t.Errorf("Parse(%q) = %v, %d", text, back, e)
		}
	}
}

func TestParse(t *testing.T) {
	for s, want := range map[string]api.Rat{
		"0": {Num: 0, Den: 1}, "-3/2": {Num: -3, Den: 2}, "25": {Num: 25, Den: 1}, "30000/1001": {Num: 30000, Den: 1001},
		"9223372036854775807":                      {Num: math.MaxInt64, Den: 1},
		"-9223372036854775807/9223372036854775806": {Num: -math.MaxInt64, Den: math.MaxInt64 - 1},
	} {
		if r, e := rational.Parse(s); r != want || e != api.OK {
			t.Errorf("Parse(%q) = %v, %d", s, r, e)
		}
	}
	for _, s := range []string{
		"", "-", "/", "//", "-/2", "+3", "+3/2", "3/+2", "-0", "00", "03", "-03", "3/02", "0/1", "0/2", "3/1", "4/2", "3/0", "3/-2",
		"-3/-2", "3/", "/2", "3/2/", "3//2", "3/2/1", " 3", "3 ", "3 /2", "3/2\n", "3\x00", "3.0", "3e2", "0x3", "1_000", "--3", "٣",
		"9223372036854775808", "-9223372036854775808", "-9223372036854775808/3", "1/9223372036854775808",
		"1/18446744073709551617", "18446744073709551617", "99999999999999999999999999999999999999/2",
	} {
		if r, e := rational.Parse(s); r != (api.Rat{}) || e != api.ErrForm {
			t.Errorf("Parse(%q) = %v, %d", s, r, e)
		}
	}
}

// TestLongFilm tests that the error of a position does not grow with its number: in a film of a thousand years, the sound of
// every frame begins within half a sample of the frame's time, and the frames between two positions have their exact length.
func TestLongFilm(t *testing.T) {
	film, sound := api.Rat{Num: 30000, Den: 1001}, api.Rat{Num: api.AudioRate, Den: 1}
	const years = 1000 * 365 * 24 * 3600 * 30
	half := big.NewRat(1, 2)
	for n := int64(0); n < years; n += years/50000 + 1 {
		p, e := rational.Position(n, film, sound)
		late := new(big.Rat).Sub(new(big.Rat).SetInt64(p), big.NewRat(n*8008, 5))
		if e != api.OK || late.Abs(late).Cmp(half) > 0 {
			t.Fatalf("frame %d begins at sample %d, %d", n, p, e)
		}
		if later, e := rational.Position(n+5, film, sound); later-p != 8008 || e != api.OK {
			t.Fatalf("5 frames from %d on have %d samples, %d", n, later-p, e)
		}
	}
}

// TestSumsStayExact adds up the lengths of frames one by one, which must be as exact as a multiplication.
func TestSumsStayExact(t *testing.T) {
	frame, sum := api.Rat{Num: 1001, Den: 30000}, api.Rat{Num: 0, Den: 1}
	for n := int64(1); n <= 30000; n++ {
		next, e := rational.Add(sum, frame)
		if want, _ := rational.Mul(frame, api.Rat{Num: n, Den: 1}); next != want || e != api.OK {
			t.Fatalf("%d frames last %v, %d; want %v", n, next, e, want)
		}
		sum = next
	}
	if sum != (api.Rat{Num: 1001, Den: 1}) {
		t.Error(sum)
	}
}
