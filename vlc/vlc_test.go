package vlc_test

import (
	"bytes"
	"math"
	"math/rand/v2"
	"slices"
	"strconv"
	"strings"
	"testing"

	"cutroom/api"
	"cutroom/bitio"
	"cutroom/vlc"
)

// In these tests a sequence of bits is a text of the digits 0 and 1.

const maxSigned = 32767

// codeOf states 4.1 in other words: v+1 in binary behind a 0 for each of its digits but the first.
func codeOf(v int) string {
	binary := strconv.FormatInt(int64(v)+1, 2)
	return strings.Repeat("0", len(binary)-1) + binary
}

// signedCodeOf states 4.3 in other words: the signed numbers 0, 1, -1, 2, -2, .. are the unsigned numbers in their order.
func signedCodeOf(v int) string {
	place := 2 * max(v, -v)
	if v > 0 {
		place--
	}
	return codeOf(place)
}

// allCodes returns the codes of 0 to MaxCode.
func allCodes() []string {
	var codes []string
	for v := range vlc.MaxCode + 1 {
		codes = append(codes, codeOf(v))
	}
	return codes
}

// outside are numbers that have no code, among them some that a smaller type, an increment or a doubling turns into others.
var outside = []int{
	vlc.MaxCode + 1, vlc.MaxCode + 2, 1<<17 - 1, 1 << 31, 1<<32 - 1, 1 << 32, 1<<32 + 5, 1 << 62, 1<<62 + 1, 1<<63 - 2,
	math.MaxInt, math.MinInt, math.MinInt + 1, math.MinInt + 5, -1 << 62, -1<<62 - 1, -1 << 32, -1 << 31, -vlc.MaxCode - 1,
}

// add appends a sequence of bits to w, bit by bit.
func add(t *testing.T, w *bitio.Writer, sequence string) {
	t.Helper()
	for i := range sequence {
		if e := w.Put(uint32(sequence[i]-'0'), 1); e != api.OK {
			t.Fatalf("Put of bit %d of %s = %d", i, sequence, e)
		}
	}
}

func writerOf(t *testing.T, sequence string) *bitio.Writer {
	t.Helper()
	w := bitio.NewWriter()
	add(t, w, sequence)
	return w
}

// readerOf returns a reader of a sequence of bits that has already taken the first at of them.
func readerOf(t *testing.T, sequence string, at int) *bitio.Reader {
	t.Helper()
	r, e := bitio.NewReader(writerOf(t, sequence).Payload())
	if e != api.OK {
		t.Fatalf("NewReader of %s = %d", sequence, e)
	}
	for range at {
		if _, e := r.Take(1); e != api.OK {
			t.Fatalf("Take(1) = %d", e)
		}
	}
	return r
}

// digitsOf returns the bits that are left, and takes them.
func digitsOf(t *testing.T, r *bitio.Reader) string {
	t.Helper()
	digits := ""
	for r.Left() > 0 {
		bit, e := r.Take(1)
		if e != api.OK {
			t.Fatalf("Take(1) = %d", e)
		}
		digits += strconv.Itoa(int(bit))
	}
	return digits
}

func checkWriter(t *testing.T, w *bitio.Writer, sequence string) {
	t.Helper()
	if w.Len() != len(sequence) {
		t.Errorf("there are %d bits; want %s", w.Len(), sequence)
	}
	if payload := writerOf(t, sequence).Payload(); !bytes.Equal(w.Payload(), payload) {
		t.Errorf("the payload is %v; want %v, of %s", w.Payload(), payload, sequence)
	}
}

// checkReader checks where a reader of sequence is, and takes all that is left.
func checkReader(t *testing.T, r *bitio.Reader, sequence string, at int) {
	t.Helper()
	if r.At() != at || r.Left() != len(sequence)-at {
		t.Errorf("a reader of %s has taken %d bits and has %d left; want %d, %d", sequence, r.At(), r.Left(), at, len(sequence)-at)
	}
	if rest := digitsOf(t, r); rest != sequence[at:] {
		t.Errorf("a reader of %s has %s left; want %s", sequence, rest, sequence[at:])
	}
}

func checkPut(t *testing.T, name string, put func(*bitio.Writer, int) api.Errno, w *bitio.Writer, v int, want api.Errno) {
	t.Helper()
	if e := put(w, v); e != want {
		t.Errorf("%s(w, %d) = %d; want %d", name, v, e, want)
	}
}

func checkTake(t *testing.T, name string, take func(*bitio.Reader) (int, api.Errno), r *bitio.Reader, want int, wantError api.Errno) {
	t.Helper()
	if v, e := take(r); v != want || e != wantError {
		t.Errorf("%s(r) = %d, %d; want %d, %d", name, v, e, want, wantError)
	}
}

// checkNoCode checks that no code can be read behind the first at bits of sequence.
func checkNoCode(t *testing.T, sequence string, at int, want api.Errno) {
	t.Helper()
	r := readerOf(t, sequence, at)
	checkTake(t, "TakeUnsigned", vlc.TakeUnsigned, r, 0, want)
	checkTake(t, "TakeSigned", vlc.TakeSigned, r, 0, want)
	checkReader(t, r, sequence, at)
}

func TestUnsignedExamples(t *testing.T) {
	if vlc.MaxCode != 65534 {
		t.Errorf("MaxCode is %d", vlc.MaxCode)
	}
	for v, code := range map[int]string{
		0:     "1",
		1:     "010",
		2:     "011",
		3:     "00100",
		4:     "00101",
		6:     "00111",
		7:     "0001000",
		14:    "0001111",
		15:    "000010000",
		254:   "000000011111111",
		255:   "00000000100000000",
		32766: "00000000000000" + "111111111111111",
		32767: "000000000000000" + "1000000000000000",
		65534: "000000000000000" + "1111111111111111",
	} {
		w := bitio.NewWriter()
		checkPut(t, "PutUnsigned", vlc.PutUnsigned, w, v, api.OK)
		checkWriter(t, w, code)
		r := readerOf(t, code, 0)
		checkTake(t, "TakeUnsigned", vlc.TakeUnsigned, r, v, api.OK)
		checkReader(t, r, code, len(code))
		if n := vlc.Bits(v); n != len(code) {
			t.Errorf("Bits(%d) = %d; want %d", v, n, len(code))
		}
	}
}

func TestSignedExamples(t *testing.T) {
	for v, code := range map[int]string{
		0:          "1",
		1:          "010",
		-1:         "011",
		2:          "00100",
		-2:         "00101",
		3:          "00110",
		-3:         "00111",
		4:          "0001000",
		16384:      "000000000000000" + "1000000000000000",
		-16384:     "000000000000000" + "1000000000000001",
		maxSigned:  "000000000000000" + "1111111111111110",
		-maxSigned: "000000000000000" + "1111111111111111",
	} {
		w := bitio.NewWriter()
		checkPut(t, "PutSigned", vlc.PutSigned, w, v, api.OK)
		checkWriter(t, w, code)
		r := readerOf(t, code, 0)
		checkTake(t, "TakeSigned", vlc.TakeSigned, r, v, api.OK)
		checkReader(t, r, code, len(code))
		if n := vlc.SignedBits(v); n != len(code) {
			t.Errorf("SignedBits(%d) = %d; want %d", v, n, len(code))
		}
	}
}

// TestEveryUnsigned writes and reads every number, behind and before other bits.
func TestEveryUnsigned(t *testing.T) {
	for v, code := range allCodes() {
		if n := vlc.Bits(v); n != len(code) {
			t.Errorf("Bits(%d) = %d; want %d", v, n, len(code))
		}
		head := "01001110"[:v%9]
		w := writerOf(t, head)
		checkPut(t, "PutUnsigned", vlc.PutUnsigned, w, v, api.OK)
		checkWriter(t, w, head+code)
		sequence := head + code + "0110"[:v%5]
		r := readerOf(t, sequence, len(head))
		checkTake(t, "TakeUnsigned", vlc.TakeUnsigned, r, v, api.OK)
		checkReader(t, r, sequence, len(head)+len(code))
	}
}

// TestEverySigned writes and reads every signed number, behind and before other bits.
func TestEverySigned(t *testing.T) {
	for v := -maxSigned; v <= maxSigned; v++ {
		code := signedCodeOf(v)
		if n := vlc.SignedBits(v); n != len(code) {
			t.Errorf("SignedBits(%d) = %d; want %d", v, n, len(code))
		}
		head := "10110001"[:(v+maxSigned)%9]
		w := writerOf(t, head)
		checkPut(t, "PutSigned", vlc.PutSigned, w, v, api.OK)
		checkWriter(t, w, head+code)
		sequence := head + code + "0010"[:(v+maxSigned)%5]
		r := readerOf(t, sequence, len(head))
		checkTake(t, "TakeSigned", vlc.TakeSigned, r, v, api.OK)
		checkReader(t, r, sequence, len(head)+len(code))
	}
}

// TestSignedIsUnsigned compares the signed codes with the formula of 4.3.
func TestSignedIsUnsigned(t *testing.T) {
	for v := -maxSigned; v <= maxSigned; v++ {
		u := -2 * v
		if v > 0 {
			u = 2*v - 1
		}
		if vlc.SignedBits(v) != vlc.Bits(u) {
			t.Errorf("SignedBits(%d) = %d; Bits(%d) = %d", v, vlc.SignedBits(v), u, vlc.Bits(u))
		}
		r := readerOf(t, codeOf(u), 0)
		checkTake(t, "TakeSigned", vlc.TakeSigned, r, v, api.OK)
	}
}

func TestPutUnsignedErrors(t *testing.T) {
	for _, v := range append([]int{-1, -2}, outside...) {
		if n := vlc.Bits(v); n != 0 {
			t.Errorf("Bits(%d) = %d", v, n)
		}
		checkRefused(t, "PutUnsigned", vlc.PutUnsigned, v)
	}
}

func TestPutSignedErrors(t *testing.T) {
	for _, v := range append([]int{maxSigned + 1, -maxSigned - 1, maxSigned + 2, -maxSigned - 2}, outside...) {
		if n := vlc.SignedBits(v); n != 0 {
			t.Errorf("SignedBits(%d) = %d", v, n)
		}
		checkRefused(t, "PutSigned", vlc.PutSigned, v)
	}
}

// checkRefused checks that v is out of range, and that writers do not change and can be used further.
func checkRefused(t *testing.T, name string, put func(*bitio.Writer, int) api.Errno, v int) {
	t.Helper()
	checkPut(t, name, put, nil, v, api.ErrArg)
	for _, sequence := range []string{"", "011", "0110101", "01101011", "011010110"} {
		w := writerOf(t, sequence)
		checkPut(t, name, put, w, v, api.ErrRange)
		checkWriter(t, w, sequence)
		checkPut(t, name, put, w, 1, api.OK)
		checkWriter(t, w, sequence+"010")
	}
}

func TestNilWriter(t *testing.T) {
	for _, v := range []int{0, 1, 7, maxSigned, vlc.MaxCode, -1, -maxSigned, vlc.MaxCode + 1} {
		checkPut(t, "PutUnsigned", vlc.PutUnsigned, nil, v, api.ErrArg)
		checkPut(t, "PutSigned", vlc.PutSigned, nil, v, api.ErrArg)
	}
}

func TestNilReader(t *testing.T) {
	checkTake(t, "TakeUnsigned", vlc.TakeUnsigned, nil, 0, api.ErrArg)
	checkTake(t, "TakeSigned", vlc.TakeSigned, nil, 0, api.ErrArg)
}

// TestManyZeros: 16 zeros are malformed, whatever follows them; fewer at the end are only too short.
func TestManyZeros(t *testing.T) {
	for at := range 20 {
		head := strings.Repeat("10", 10)[:at]
		for zeros := range 70 {
			for _, tail := range []string{"", "1", "0110", strings.Repeat("1", 40)} {
				sequence := head + strings.Repeat("0", zeros) + tail
				if zeros >= 16 {
					checkNoCode(t, sequence, at, api.ErrForm)
				} else if tail == "" {
					checkNoCode(t, sequence, at, api.ErrShort)
				}
			}
		}
	}
}

// TestIncompleteCodes: every code that lacks bits at its end is too short.
func TestIncompleteCodes(t *testing.T) {
	values := []int{vlc.MaxCode - 1, vlc.MaxCode, maxSigned, maxSigned - 1, maxSigned + 1, 1 << 15, 0x5a5a}
	for v := range 300 {
		values = append(values, v)
	}
	for _, v := range values {
		code := codeOf(v)
		for length := range len(code) {
			head := "110100101"[:length%10]
			checkNoCode(t, head+code[:length], len(head), api.ErrShort)
		}
	}
}

// TestEverySequence reads all short sequences of bits and compares with a search for the code that they begin with.
func TestEverySequence(t *testing.T) {
	numbers := map[string]int{}
	for v, code := range allCodes() {
		numbers[code] = v
	}
	for length := range 14 {
		for bits := range 1 << length {
			digits := strings.Repeat("0", length) + strconv.FormatInt(int64(bits), 2)
			checkSequence(t, numbers, digits[len(digits)-length:])
		}
	}
	random := rand.New(rand.NewPCG(4, 1))
	for range 5000 {
		sequence := strings.Repeat("0", random.IntN(20))
		for range random.IntN(25) {
			sequence += strconv.Itoa(random.IntN(2))
		}
		checkSequence(t, numbers, sequence)
	}
}

func checkSequence(t *testing.T, numbers map[string]int, sequence string) {
	t.Helper()
	for n := range len(sequence) + 1 {
		if v, ok := numbers[sequence[:n]]; ok {
			r := readerOf(t, sequence, 0)
			checkTake(t, "TakeUnsigned", vlc.TakeUnsigned, r, v, api.OK)
			checkReader(t, r, sequence, n)
			return
		}
	}
	if strings.HasPrefix(sequence, strings.Repeat("0", 16)) {
		checkNoCode(t, sequence, 0, api.ErrForm)
	} else {
		checkNoCode(t, sequence, 0, api.ErrShort)
	}
}

// TestReadersAreSeparate: one reader does not move with another one.
func TestReadersAreSeparate(t *testing.T) {
	sequence := codeOf(900) + codeOf(5)
	payload := writerOf(t, sequence).Payload()
	a, _ := bitio.NewReader(payload)
	b, _ := bitio.NewReader(payload)
	checkTake(t, "TakeUnsigned", vlc.TakeUnsigned, a, 900, api.OK)
	checkTake(t, "TakeUnsigned", vlc.TakeUnsigned, b, 900, api.OK)
	checkTake(t, "TakeUnsigned", vlc.TakeUnsigned, a, 5, api.OK)
	checkReader(t, a, sequence, len(sequence))
	checkReader(t, b, sequence, len(codeOf(900)))
}

// TestNoCodeIsPrefix writes all codes and compares neighbours: in ascending order of texts, a prefix of any other text is
// also a prefix of the next one.
func TestNoCodeIsPrefix(t *testing.T) {
	var codes []string
	for v := range vlc.MaxCode + 1 {
		w := bitio.NewWriter()
		checkPut(t, "PutUnsigned", vlc.PutUnsigned, w, v, api.OK)
		r, e := bitio.NewReader(w.Payload())
		if e != api.OK {
			t.Fatalf("NewReader = %d", e)
		}
		codes = append(codes, digitsOf(t, r))
	}
	slices.Sort(codes)
	for i, code := range codes[1:] {
		if strings.HasPrefix(code, codes[i]) {
			t.Errorf("%s is a prefix of %s", codes[i], code)
		}
	}
}

// TestSmallerIsShorter: the code of a smaller number is never longer, and that of a much smaller one is shorter.
func TestSmallerIsShorter(t *testing.T) {
	for v := range vlc.MaxCode {
		if vlc.Bits(v) > vlc.Bits(v+1) {
			t.Errorf("Bits(%d) = %d; Bits(%d) = %d", v, vlc.Bits(v), v+1, vlc.Bits(v+1))
		}
		if v > 0 && vlc.Bits(v/2) >= vlc.Bits(v+1) {
			t.Errorf("Bits(%d) = %d; Bits(%d) = %d", v/2, vlc.Bits(v/2), v+1, vlc.Bits(v+1))
		}
	}
	for v := range maxSigned {
		if vlc.SignedBits(-v) > vlc.SignedBits(v+1) || vlc.SignedBits(v+1) > vlc.SignedBits(-v-1) {
			t.Errorf("the codes of %d, %d and %d become shorter", -v, v+1, -v-1)
		}
	}
}

// TestSequencesOfCodes reads codes back that have no separators, signed and unsigned ones and other bits among each other.
func TestSequencesOfCodes(t *testing.T) {
	random := rand.New(rand.NewPCG(4, 4))
	for range 300 {
		var kinds, values []int
		w, length := bitio.NewWriter(), 0
		for range random.IntN(40) {
			kind, v := random.IntN(3), random.IntN(1<<random.IntN(16))
			switch kind {
			case 0:
				v = min(v*2, vlc.MaxCode)
				checkPut(t, "PutUnsigned", vlc.PutUnsigned, w, v, api.OK)
				length += vlc.Bits(v)
			case 1:
				v *= 1 - 2*random.IntN(2)
				checkPut(t, "PutSigned", vlc.PutSigned, w, v, api.OK)
				length += vlc.SignedBits(v)
			case 2:
				v %= 2
				add(t, w, strconv.Itoa(v))
				length++
			}
			kinds, values = append(kinds, kind), append(values, v)
		}
		if w.Len() != length {
			t.Errorf("%d bits were written; want %d", w.Len(), length)
		}
		checkSequenceOfCodes(t, w.Payload(), kinds, values)
	}
}

func checkSequenceOfCodes(t *testing.T, payload []byte, kinds, values []int) {
	t.Helper()
	r, e := bitio.NewReader(payload)
	if e != api.OK {
		t.Fatalf("NewReader = %d", e)
	}
	for i, v := range values {
		switch kinds[i] {
		case 0:
			checkTake(t, "TakeUnsigned", vlc.TakeUnsigned, r, v, api.OK)
		case 1:
			checkTake(t, "TakeSigned", vlc.TakeSigned, r, v, api.OK)
		case 2:
			if bit, e := r.Take(1); int(bit) != v || e != api.OK {
				t.Errorf("Take(1) = %d, %d; want %d", bit, e, v)
			}
		}
	}
	if r.Left() != 0 {
		t.Errorf("%d bits are left", r.Left())
	}
	checkTake(t, "TakeUnsigned", vlc.TakeUnsigned, r, 0, api.ErrShort)
	checkTake(t, "TakeSigned", vlc.TakeSigned, r, 0, api.ErrShort)
}
