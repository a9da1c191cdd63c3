package rational

import "cutroom/api"

// maxScale is the greatest numerator and denominator of a scale.
const maxScale = 1 << 31

// usual has pairs of a usual frame rate and the samples of sound in one of its frames: nearly every film needs these
// conversions over and over, so their quotients are not computed anew for each frame.
var usual = [...][2]api.Rat{
	{{Num: 24000, Den: 1001}, {Num: 2002, Den: 1}},
	{{Num: 24, Den: 1}, {Num: 2000, Den: 1}},
	{{Num: 25, Den: 1}, {Num: 1920, Den: 1}},
	{{Num: 30000, Den: 1001}, {Num: 8008, Den: 5}},
	{{Num: 30, Den: 1}, {Num: 1600, Den: 1}},
	{{Num: 50, Den: 1}, {Num: 960, Den: 1}},
	{{Num: 60000, Den: 1001}, {Num: 4004, Den: 5}},
	{{Num: 60, Den: 1}, {Num: 800, Den: 1}},
}

// Position returns the unit of the scale to that is nearest to the time of unit n of the scale from.
func Position(n int64, from, to api.Rat) (int64, api.Errno) {
	if !isScale(from) || !isScale(to) {
		return 0, api.ErrArg
	}
	return nearest(n, stepOf(from, to))
}

// isScale reports whether r can be a number of units per second.
func isScale(r api.Rat) bool {
	return Valid(r) && r.Num > 0 && r.Num <= maxScale && r.Den <= maxScale
}

// stepOf returns to/from: the units of the scale to in a unit of the scale from.
func stepOf(from, to api.Rat) api.Rat {
	if to == (api.Rat{Num: api.AudioRate, Den: 1}) {
		for _, pair := range usual {
			if pair[0] == from {
				return pair[1]
			}
		}
	}
	step, _ := Div(to, from) // scales always have a quotient, with parts of at most maxScale squared
	return step
}

// nearest returns the greatest integer that is not greater than n*step + 1/2. The parts of step are at most 2^62.
func nearest(n int64, step api.Rat) (int64, api.Errno) {
	// The half belongs into the dividend: a quotient that is rounded down first may be too small for an int64 although the
	// nearest integer is not.
	once := product(n, step.Num)
	twice := once.plus(once).plus(wide{lo: uint64(step.Den)})
	whole, _ := twice.divide(2 * uint64(step.Den))
	position, ok := whole.narrow()
	if !ok {
		return 0, api.ErrRange
	}
	return position, api.OK
}
