package startcode_test

import (
	"bytes"
	"math"
	"math/rand/v2"
	"reflect"
	"regexp"
	"slices"
	"testing"

	"cutroom/api"
	"cutroom/startcode"
)

// escaped states 3.1 in other words: each byte is compared with what has been written so far.
func escaped(payload []byte) []byte {
	var written []byte
	for _, c := range payload {
		if c < 4 && bytes.HasSuffix(written, []byte{0, 0}) {
			written = append(written, 3)
		}
		written = append(written, c)
	}
	return written
}

// malformed is what 3.2 lists; in the tests that use it all bytes are less than 128, as one byte is one character then.
var malformed = regexp.MustCompile(`(?s)\x00$|\x00\x00[\x00-\x02]|\x00\x00\x03[^\x00-\x03]|\x00\x00\x03$`)

// separated states 3.4 in other words: first the indexes of all start codes, and then what is between them.
func separated(b []byte) (units []startcode.Found, defects []startcode.Defect) {
	var codes []int
	for i := range b {
		behind := len(codes) == 0 || i >= codes[len(codes)-1]+4
		if behind && bytes.HasPrefix(b[i:], []byte{0, 0, 1}) && len(b) > i+3 && b[i+3] > 0 {
			codes = append(codes, i)
		}
	}
	codes = append(codes, len(b))
	for _, c := range b[:codes[0]] {
		if c != 0 {
			defects = []startcode.Defect{{From: 0, To: codes[0]}}
		}
	}
	for k, from := range codes[:len(codes)-1] {
		to := codes[k+1]
		for to > from+4 && b[to-1] == 0 {
			to--
		}
		payload, e := startcode.Unescape(b[from+4 : to])
		if e != api.OK {
			defects = append(defects, startcode.Defect{From: from, To: to})
			continue
		}
		unit := api.Unit{Type: int(b[from+3]), Payload: payload}
		units = append(units, startcode.Found{Unit: unit, From: from, To: to, Next: codes[k+1]})
	}
	return units, defects
}

// eachSequence calls f with every sequence of at most the given length of bytes from an alphabet.
func eachSequence(alphabet []byte, longest int, f func(b []byte)) {
	sequences := [][]byte{{}}
	for length := 0; ; length++ {
		for _, b := range sequences {
			f(b)
		}
		if length == longest {
			return
		}
		var longer [][]byte
		for _, b := range sequences {
			for _, c := range alphabet {
				longer = append(longer, append(slices.Clone(b), c))
			}
		}
		sequences = longer
	}
}

// randomBytes returns n bytes in which zeros, parts of start codes and escapes are frequent.
func randomBytes(random *rand.Rand, n int) []byte {
	b := make([]byte, n)
	for i := range b {
		if random.IntN(3) > 0 {
			b[i] = byte(max(0, random.IntN(10)-5))
		} else {
			b[i] = byte(random.IntN(256))
		}
	}
	return b
}

// randomUnit returns a unit that can be formatted.
func randomUnit(random *rand.Rand) api.Unit {
	payload := randomBytes(random, random.IntN(20))
	if len(payload) > 0 && payload[len(payload)-1] == 0 {
		payload = append(payload, byte(1+random.IntN(255)))
	}
	return api.Unit{Type: 1 + random.IntN(255), Payload: payload}
}

func formatted(t *testing.T, u api.Unit) []byte {
	t.Helper()
	b, e := startcode.Format(u)
	if e != api.OK {
		t.Fatalf("Format(%v) = %d", u, e)
	}
	return b
}

func checkEscape(t *testing.T, payload, want []byte, wantError api.Errno) {
	t.Helper()
	if b, e := startcode.Escape(payload); !bytes.Equal(b, want) || e != wantError {
		t.Errorf("Escape(%v) = %v, %d; want %v, %d", payload, b, e, want, wantError)
	}
}

func checkUnescape(t *testing.T, b, want []byte, wantError api.Errno) {
	t.Helper()
	if payload, e := startcode.Unescape(b); !bytes.Equal(payload, want) || e != wantError {
		t.Errorf("Unescape(%v) = %v, %d; want %v, %d", b, payload, e, want, wantError)
	}
}

// sameUnits compares units where a nil payload and an empty one are equivalent.
func sameUnits(a, b []startcode.Found) bool {
	return slices.EqualFunc(a, b, func(x, y startcode.Found) bool {
		return x.Unit.Type == y.Unit.Type && bytes.Equal(x.Unit.Payload, y.Unit.Payload) &&
			x.From == y.From && x.To == y.To && x.Next == y.Next
	})
}

func checkSplit(t *testing.T, b []byte, units []startcode.Found, defects []startcode.Defect) {
	t.Helper()
	gotUnits, gotDefects := startcode.Split(b)
	if !sameUnits(gotUnits, units) || !slices.Equal(gotDefects, defects) {
		t.Errorf("Split(%v) = %v, %v; want %v, %v", b, gotUnits, gotDefects, units, defects)
	}
}

// isFound tells whether a unit was found at an index with all its bytes.
func isFound(units []startcode.Found, unit api.Unit, from int) bool {
	return slices.ContainsFunc(units, func(f startcode.Found) bool {
		return f.From == from && f.Unit.Type == unit.Type && bytes.Equal(f.Unit.Payload, unit.Payload)
	})
}

func TestEscapeExamples(t *testing.T) {
	for _, c := range []struct{ payload, want []byte }{
		{nil, nil},
		{[]byte{}, nil},
		{[]byte{3}, []byte{3}},
		{[]byte{255}, []byte{255}},
		{[]byte{0, 1}, []byte{0, 1}},
		{[]byte{0, 0, 1}, []byte{0, 0, 3, 1}},
		{[]byte{0, 0, 2}, []byte{0, 0, 3, 2}},
		{[]byte{0, 0, 3}, []byte{0, 0, 3, 3}},
		{[]byte{0, 0, 4}, []byte{0, 0, 4}},
		{[]byte{0, 0, 255}, []byte{0, 0, 255}},
		{[]byte{0, 0, 0, 1}, []byte{0, 0, 3, 0, 1}},
		{[]byte{0, 0, 0, 4}, []byte{0, 0, 3, 0, 4}},
		{[]byte{0, 0, 0, 0, 5}, []byte{0, 0, 3, 0, 0, 5}},
		{[]byte{0, 0, 0, 0, 1}, []byte{0, 0, 3, 0, 0, 3, 1}},
		{[]byte{0, 0, 0, 0, 0, 0, 1}, []byte{0, 0, 3, 0, 0, 3, 0, 0, 3, 1}},
		{[]byte{0, 0, 3, 0, 0, 3}, []byte{0, 0, 3, 3, 0, 0, 3, 3}},
		{[]byte{0, 0, 3, 1}, []byte{0, 0, 3, 3, 1}},
		{[]byte{9, 0, 7, 0, 0, 1, 0, 1}, []byte{9, 0, 7, 0, 0, 3, 1, 0, 1}},
		{[]byte{0, 0, 1, 178, 0, 0, 1, 183}, []byte{0, 0, 3, 1, 178, 0, 0, 3, 1, 183}},
	} {
		checkEscape(t, c.payload, c.want, api.OK)
		checkUnescape(t, c.want, c.payload, api.OK)
	}
}

func TestEscapeErrors(t *testing.T) {
	for _, payload := range [][]byte{{0}, {0, 0}, {0, 0, 0}, {1, 0}, {0, 0, 1, 0}, {9, 9, 9, 9, 0}} {
		checkEscape(t, payload, nil, api.ErrForm)
	}
}

func TestUnescapeErrors(t *testing.T) {
	for _, b := range [][]byte{
		{0}, {7, 0}, {0, 0}, {0, 0, 3, 0}, {0, 0, 3, 1, 0},
		{0, 0, 0, 9}, {0, 0, 1}, {0, 0, 1, 9}, {0, 0, 2}, {5, 0, 0, 2, 9},
		{0, 0, 3}, {9, 0, 0, 3}, {0, 0, 3, 0, 0, 3}, {0, 0, 3, 1, 0, 0, 3},
		{0, 0, 3, 4}, {0, 0, 3, 255}, {0, 0, 3, 9, 0, 0, 3, 1}, {0, 0, 3, 0, 0, 3, 4},
		{0, 0, 3, 0, 0, 1}, {0, 0, 3, 0, 0, 0, 5}, {0, 0, 3, 3, 0, 0, 2},
	} {
		checkUnescape(t, b, nil, api.ErrForm)
	}
}

func TestEscapeOfEverySequence(t *testing.T) {
	eachSequence([]byte{0, 1, 2, 3, 4, 255}, 6, func(payload []byte) {
		if len(payload) > 0 && payload[len(payload)-1] == 0 {
			checkEscape(t, payload, nil, api.ErrForm)
			return
		}
		checkEscape(t, payload, escaped(payload), api.OK)
		checkUnescape(t, escaped(payload), payload, api.OK)
	})
}

// TestUnescapeOfEverySequence compares Unescape with both halves of 3.2: no payload is escaped to b, and what b contains.
func TestUnescapeOfEverySequence(t *testing.T) {
	alphabet := []byte{0, 1, 2, 3, 4, 5}
	payloads := map[string][]byte{}
	eachSequence(alphabet, 6, func(payload []byte) {
		if len(payload) == 0 || payload[len(payload)-1] != 0 {
			payloads[string(escaped(payload))] = payload
		}
	})
	eachSequence(alphabet, 6, func(b []byte) {
		payload, ok := payloads[string(b)]
		if ok == malformed.Match(b) {
			t.Errorf("the two halves of 3.2 differ for %v", b)
		}
		if ok {
			checkUnescape(t, b, payload, api.OK)
		} else {
			checkUnescape(t, b, nil, api.ErrForm)
		}
	})
}

// TestEveryByteBehindZeros looks at all bytes, also those that no table contains.
func TestEveryByteBehindZeros(t *testing.T) {
	for c := 1; c < 256; c++ {
		payload := []byte{8, 0, 0, byte(c)}
		checkEscape(t, payload, escaped(payload), api.OK)
		if c >= 4 {
			checkUnescape(t, payload, payload, api.OK)
			checkUnescape(t, []byte{0, 0, 3, byte(c)}, nil, api.ErrForm)
		} else {
			checkUnescape(t, []byte{0, 0, 3, byte(c)}, []byte{0, 0, byte(c)}, api.OK)
		}
	}
}

func TestEscapeAtRandom(t *testing.T) {
	random := rand.New(rand.NewPCG(3, 1))
	for range 2000 {
		payload := append(randomBytes(random, random.IntN(200)), byte(1+random.IntN(255)))
		checkEscape(t, payload, escaped(payload), api.OK)
		checkUnescape(t, escaped(payload), payload, api.OK)
	}
}

func TestFormatExamples(t *testing.T) {
	for _, c := range []struct {
		unit api.Unit
		want []byte
	}{
		{api.Unit{Type: api.UnitEnd}, []byte{0, 0, 1, 183}},
		{api.Unit{Type: api.UnitEnd, Payload: []byte{}}, []byte{0, 0, 1, 183}},
		{api.Unit{Type: api.UnitSlice, Payload: []byte{1}}, []byte{0, 0, 1, 1, 1}},
		{api.Unit{Type: api.UnitUser, Payload: []byte{7}}, []byte{0, 0, 1, 178, 7}},
		{api.Unit{Type: 255, Payload: []byte{0, 0, 1}}, []byte{0, 0, 1, 255, 0, 0, 3, 1}},
		{api.Unit{Type: 1, Payload: []byte{0, 0, 0, 0, 5}}, []byte{0, 0, 1, 1, 0, 0, 3, 0, 0, 5}},
	} {
		if b, e := startcode.Format(c.unit); !bytes.Equal(b, c.want) || e != api.OK {
			t.Errorf("Format(%v) = %v, %d; want %v", c.unit, b, e, c.want)
		}
	}
}

func TestFormatOfEveryType(t *testing.T) {
	for kind := -300; kind <= 600; kind++ {
		b, e := startcode.Format(api.Unit{Type: kind, Payload: []byte{6}})
		if kind < 1 || kind > 255 {
			if len(b) > 0 || e != api.ErrArg {
				t.Errorf("Format of type %d = %v, %d", kind, b, e)
			}
		} else if !bytes.Equal(b, []byte{0, 0, 1, byte(kind), 6}) || e != api.OK {
			t.Errorf("Format of type %d = %v, %d", kind, b, e)
		}
	}
}

func TestFormatErrors(t *testing.T) {
	for _, c := range []struct {
		unit api.Unit
		e    api.Errno
	}{
		{api.Unit{}, api.ErrArg},
		{api.Unit{Type: math.MinInt}, api.ErrArg},
		{api.Unit{Type: math.MaxInt}, api.ErrArg},
		{api.Unit{Type: 1<<32 + 1}, api.ErrArg},
		// The type is examined before the payload.
		{api.Unit{Type: 0, Payload: []byte{0}}, api.ErrArg},
		{api.Unit{Type: 256, Payload: []byte{0}}, api.ErrArg},
		{api.Unit{Type: 1, Payload: []byte{0}}, api.ErrForm},
		{api.Unit{Type: 255, Payload: []byte{1, 2, 0}}, api.ErrForm},
	} {
		if b, e := startcode.Format(c.unit); len(b) > 0 || e != c.e {
			t.Errorf("Format(%v) = %v, %d; want %d", c.unit, b, e, c.e)
		}
	}
}

func TestSplitExamples(t *testing.T) {
	type units = []startcode.Found
	type defects = []startcode.Defect
	end := api.Unit{Type: 183}
	for _, c := range []struct {
		b       []byte
		units   units
		defects defects
	}{
		{nil, nil, nil},
		{[]byte{0}, nil, nil},
		{[]byte{0, 0, 0, 0, 0}, nil, nil},
		{[]byte{9}, nil, defects{{0, 1}}},
		{[]byte{0, 0, 9, 0, 0}, nil, defects{{0, 5}}},
		// No start codes: the type is missing, or it is 0.
		{[]byte{0, 0, 1}, nil, defects{{0, 3}}},
		{[]byte{0, 0, 1, 0}, nil, defects{{0, 4}}},
		{[]byte{0, 0, 1, 183}, units{{end, 0, 4, 4}}, nil},
		{[]byte{0, 0, 0, 0, 1, 183}, units{{end, 2, 6, 6}}, nil},
		{[]byte{0, 0, 1, 183, 0, 0, 0}, units{{end, 0, 4, 7}}, nil},
		{[]byte{9, 0, 0, 1, 183}, units{{end, 1, 5, 5}}, defects{{0, 1}}},
		{[]byte{9, 0, 0, 0, 0, 1, 183}, units{{end, 3, 7, 7}}, defects{{0, 3}}},
		{[]byte{0, 0, 1, 0, 0, 1, 183}, units{{end, 3, 7, 7}}, defects{{0, 3}}},
		{
			[]byte{0, 0, 1, 178, 7, 0, 0, 0, 1, 183},
			units{{api.Unit{Type: 178, Payload: []byte{7}}, 0, 5, 6}, {end, 6, 10, 10}}, nil,
		},
		{[]byte{0, 0, 1, 255, 0, 0, 3, 1}, units{{api.Unit{Type: 255, Payload: []byte{0, 0, 1}}, 0, 8, 8}}, nil},
		// The type and the bytes before it are no part of another start code.
		{[]byte{0, 0, 1, 1, 0, 0, 1, 1}, units{{api.Unit{Type: 1}, 0, 4, 4}, {api.Unit{Type: 1}, 4, 8, 8}}, nil},
		// A body that is not escaped.
		{[]byte{0, 0, 1, 5, 0, 0, 2, 0, 0}, nil, defects{{0, 7}}},
		{[]byte{0, 0, 1, 5, 0, 0, 3, 4}, nil, defects{{0, 8}}},
		{[]byte{0, 0, 1, 5, 7, 0, 0, 3, 0, 0, 1, 6}, units{{api.Unit{Type: 6}, 8, 12, 12}}, defects{{0, 8}}},
		{[]byte{0, 0, 1, 5, 7, 0, 0, 1, 0}, nil, defects{{0, 8}}},
		{[]byte{0, 0, 1, 5, 7, 0, 0, 1}, nil, defects{{0, 8}}},
		// Defects between units, behind them and before them.
		{
			[]byte{1, 0, 0, 1, 2, 0, 0, 1, 3, 0, 0, 2, 0, 0, 1, 4, 4, 0, 0, 1, 5, 0, 0, 3},
			units{{api.Unit{Type: 2}, 1, 5, 5}, {api.Unit{Type: 4, Payload: []byte{4}}, 12, 17, 17}},
			defects{{0, 1}, {5, 12}, {17, 24}},
		},
	} {
		checkSplit(t, c.b, c.units, c.defects)
	}
}

func TestSplitOfEverySequence(t *testing.T) {
	eachSequence([]byte{0, 1, 3, 200}, 9, func(b []byte) {
		units, defects := separated(b)
		checkSplit(t, b, units, defects)
	})
}

func TestSplitAtRandom(t *testing.T) {
	random := rand.New(rand.NewPCG(3, 4))
	for range 3000 {
		b := randomBytes(random, random.IntN(300))
		units, defects := separated(b)
		checkSplit(t, b, units, defects)
	}
}

// TestNoStartCodeInUnit: the only start code of a formatted unit is its first one.
func TestNoStartCodeInUnit(t *testing.T) {
	code := regexp.MustCompile(`\x00\x00\x01`)
	for _, kind := range []int{1, 2, 3, 127} {
		eachSequence([]byte{0, 1, 2, 3, 4}, 6, func(payload []byte) {
			if len(payload) > 0 && payload[len(payload)-1] == 0 {
				return
			}
			b := formatted(t, api.Unit{Type: kind, Payload: payload})
			if places := code.FindAllIndex(b, -1); !reflect.DeepEqual(places, [][]int{{0, 3}}) {
				t.Errorf("%v contains start codes at %v", b, places)
			}
		})
	}
}

// TestSplitOfUnits: units are found as they were, with any number of bytes 0 between them.
func TestSplitOfUnits(t *testing.T) {
	random := rand.New(rand.NewPCG(3, 5))
	for range 2000 {
		b := make([]byte, random.IntN(4))
		var want []startcode.Found
		for range random.IntN(6) {
			unit, from := randomUnit(random), len(b)
			b = append(b, formatted(t, unit)...)
			to := len(b)
			b = append(b, make([]byte, random.IntN(5))...)
			want = append(want, startcode.Found{Unit: unit, From: from, To: to, Next: len(b)})
		}
		checkSplit(t, b, want, nil)
	}
}

// TestResynchronisation: behind any bytes, which may end with a part of a start code, all units are found.
func TestResynchronisation(t *testing.T) {
	first := api.Unit{Type: 178, Payload: []byte{0, 0, 1, 5}}
	tail := append(formatted(t, first), formatted(t, api.Unit{Type: 183})...)
	eachSequence([]byte{0, 1, 2, 3, 4}, 6, func(garbage []byte) {
		b := append(slices.Clone(garbage), tail...)
		units, _ := startcode.Split(b)
		if !isFound(units, first, len(garbage)) || !isFound(units, api.Unit{Type: 183}, len(b)-4) {
			t.Errorf("Split(%v) = %v", b, units)
		}
	})
}

// damaged returns a part of b instead of which other bytes stand.
func damaged(random *rand.Rand, b []byte) []byte {
	from := random.IntN(len(b) + 1)
	to := from + random.IntN(len(b)+1-from)
	return slices.Concat(b[:from], randomBytes(random, random.IntN(12)), b[to:])
}

// TestDamage: damage behind the start code of one unit changes no other unit.
func TestDamage(t *testing.T) {
	random := rand.New(rand.NewPCG(3, 6))
	for range 3000 {
		before, after := randomUnit(random), randomUnit(random)
		b := formatted(t, before)
		hit := formatted(t, randomUnit(random))
		b = append(b, hit[:4]...)
		b = append(b, damaged(random, hit[4:])...)
		from := len(b)
		b = append(b, formatted(t, after)...)
		units, _ := startcode.Split(b)
		if !isFound(units, before, 0) || !isFound(units, after, from) {
			t.Errorf("Split(%v) = %v; want %v and %v", b, units, before, after)
		}
	}
}

// embedded returns b as a part of a longer slice, and that slice: bytes are before it, and in its capacity.
func embedded(b []byte) (part, whole []byte) {
	whole = slices.Concat([]byte{0x5a, 0x5a}, b, bytes.Repeat([]byte{0x5a}, 2*len(b)+8))
	return whole[2 : 2+len(b)], whole
}

// overwrite changes all bytes of b up to its capacity, and appends to it.
func overwrite(b []byte) {
	_ = append(b, 0x11, 0x22, 0x33)
	b = b[:cap(b)]
	for i := range b {
		b[i] = 0x77
	}
}

// TestArgumentsAreKept: a call changes nothing in its argument's memory, and its results are memory of their own.
func TestArgumentsAreKept(t *testing.T) {
	calls := map[string]func(b []byte) (results [][]byte){
		"Escape":   func(b []byte) [][]byte { r, _ := startcode.Escape(b); return [][]byte{r} },
		"Unescape": func(b []byte) [][]byte { r, _ := startcode.Unescape(b); return [][]byte{r} },
		"Format": func(b []byte) [][]byte {
			r, _ := startcode.Format(api.Unit{Type: 3, Payload: b})
			return [][]byte{r}
		},
		"Split": func(b []byte) (results [][]byte) {
			units, _ := startcode.Split(b)
			for _, f := range units {
				results = append(results, f.Unit.Payload)
			}
			return results
		},
	}
	for name, call := range calls {
		for _, b := range [][]byte{
			{}, {7}, {7, 8, 9}, {0, 0, 3, 1}, {0, 0, 1}, {0, 0, 0, 0, 0, 1}, {9, 0}, {0, 0, 3},
			{0, 0, 1, 2, 7, 0, 0, 1, 3, 8, 9, 0, 0, 1, 4, 0, 0, 3, 1, 0, 0, 0, 1, 5},
		} {
			part, whole := embedded(b)
			kept := slices.Clone(whole)
			results := call(part)
			for i, result := range results {
				others := slices.Clone(results)
				others = slices.Delete(others, i, i+1)
				wanted := bytes.Join(others, nil)
				overwrite(result)
				if !bytes.Equal(bytes.Join(others, nil), wanted) {
					t.Errorf("two results of %s of %v share memory", name, b)
				}
			}
			if !bytes.Equal(whole, kept) {
				t.Errorf("%s of %v changed its argument's memory to %v", name, b, whole)
			}
		}
	}
}
