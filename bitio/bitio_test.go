package bitio_test

import (
	"bytes"
	"math"
	"math/rand/v2"
	"strconv"
	"strings"
	"testing"

	"cutroom/api"
	"cutroom/bitio"
)

// In these tests a sequence of bits is a text of the digits 0 and 1.

// payloadOf states 2.1 in other words: the sequence, the end mark, and each eight digits as a byte.
func payloadOf(sequence string) []byte {
	digits := sequence + "1"
	for len(digits)%8 != 0 {
		digits += "0"
	}
	var payload []byte
	for ; digits != ""; digits = digits[8:] {
		b, _ := strconv.ParseUint(digits[:8], 2, 8)
		payload = append(payload, byte(b))
	}
	return payload
}

// digitsOf returns the n least significant bits of v.
func digitsOf(v uint32, n int) string {
	digits := strings.Repeat("0", 32) + strconv.FormatUint(uint64(v), 2)
	return digits[len(digits)-n:]
}

// numberOf returns the number of at most 32 digits.
func numberOf(digits string) uint32 {
	v, _ := strconv.ParseUint("0"+digits, 2, 32)
	return uint32(v)
}

// randomNumber returns a number of bits from 0 to 32 and a number that has at most as many.
func randomNumber(random *rand.Rand) (v uint32, n int) {
	n = random.IntN(33)
	return uint32(random.Uint64N(1 << n)), n
}

// randomSequence returns a sequence of n bits in which long runs of equal bits are frequent.
func randomSequence(random *rand.Rand, n int) string {
	sequence := ""
	for len(sequence) < n {
		sequence += strings.Repeat(strconv.Itoa(random.IntN(2)), 1+random.IntN(20))
	}
	return sequence[:n]
}

// writerOf returns a writer with the bits of sequence, which it gets one by one.
func writerOf(t *testing.T, sequence string) *bitio.Writer {
	t.Helper()
	w := bitio.NewWriter()
	for i := range sequence {
		if e := w.Put(numberOf(sequence[i:i+1]), 1); e != api.OK {
			t.Fatalf("Put of bit %d of %s: %d", i, sequence, e)
		}
	}
	return w
}

func readerOf(t *testing.T, payload []byte) *bitio.Reader {
	t.Helper()
	r, e := bitio.NewReader(payload)
	if r == nil || e != api.OK {
		t.Fatalf("NewReader(%v) = %v, %d", payload, r, e)
	}
	return r
}

func checkWriter(t *testing.T, w *bitio.Writer, sequence string) {
	t.Helper()
	if w.Len() != len(sequence) {
		t.Errorf("Len() = %d after %d bits", w.Len(), len(sequence))
	}
	if payload := w.Payload(); !bytes.Equal(payload, payloadOf(sequence)) {
		t.Errorf("Payload() = %v; want %v", payload, payloadOf(sequence))
	}
}

func checkReader(t *testing.T, r *bitio.Reader, at, left int) {
	t.Helper()
	if r.At() != at || r.Left() != left {
		t.Errorf("At() = %d, Left() = %d; want %d, %d", r.At(), r.Left(), at, left)
	}
}

func checkTake(t *testing.T, r *bitio.Reader, n int, want uint32, wantError api.Errno) {
	t.Helper()
	if v, e := r.Take(n); v != want || e != wantError {
		t.Errorf("Take(%d) = %d, %d; want %d, %d", n, v, e, want, wantError)
	}
}

func TestPayloadExamples(t *testing.T) {
	for sequence, want := range map[string][]byte{
		"":                  {128},
		"0":                 {64},
		"1":                 {192},
		"101":               {176},
		"0000000":           {1},
		"1111111":           {255},
		"00000000":          {0, 128},
		"11111111":          {255, 128},
		"100000000":         {128, 64},
		"000000001":         {0, 192},
		"000000000000000":   {0, 1},
		"0000000000000000":  {0, 0, 128},
		"10000000000000001": {128, 0, 192},
	} {
		if payload := writerOf(t, sequence).Payload(); !bytes.Equal(payload, want) {
			t.Errorf("the payload of %q is %v; want %v", sequence, payload, want)
		}
	}
}

func TestPutExamples(t *testing.T) {
	for _, c := range []struct {
		v    uint32
		n    int
		want []byte
	}{
		{5, 3, []byte{176}},
		{255, 8, []byte{255, 128}},
		{0, 0, []byte{128}},
		{0, 32, []byte{0, 0, 0, 0, 128}},
		{1, 32, []byte{0, 0, 0, 1, 128}},
		{0x12345678, 32, []byte{0x12, 0x34, 0x56, 0x78, 128}},
		{math.MaxUint32, 32, []byte{255, 255, 255, 255, 128}},
		{1<<31 - 1, 31, []byte{255, 255, 255, 255}},
		{0x2a, 10, []byte{10, 160}},
	} {
		w := bitio.NewWriter()
		if e := w.Put(c.v, c.n); e != api.OK {
			t.Errorf("Put(%d, %d) = %d", c.v, c.n, e)
		}
		if payload := w.Payload(); !bytes.Equal(payload, c.want) {
			t.Errorf("after Put(%d, %d), Payload() = %v; want %v", c.v, c.n, payload, c.want)
		}
	}
}

// TestPutAtEveryPlace puts every number of bits behind every number of bits in the last byte.
func TestPutAtEveryPlace(t *testing.T) {
	for before := range 17 {
		for n := range 33 {
			greatest := uint32(1<<n - 1)
			for _, v := range []uint32{0, greatest & 1, greatest, greatest & 0xb5a692d3} {
				head := strings.Repeat("1", before)
				w := writerOf(t, head)
				if e := w.Put(v, n); e != api.OK {
					t.Errorf("Put(%d, %d) = %d", v, n, e)
				}
				if e := w.Put(1, 1); e != api.OK {
					t.Errorf("Put(1, 1) = %d", e)
				}
				checkWriter(t, w, head+digitsOf(v, n)+"1")
			}
		}
	}
}

func TestPutErrors(t *testing.T) {
	for _, c := range []struct {
		v uint32
		n int
		e api.Errno
	}{
		{0, -1, api.ErrArg},
		{0, 33, api.ErrArg},
		{0, 64, api.ErrArg},
		{0, math.MinInt, api.ErrArg},
		{0, math.MaxInt, api.ErrArg},
		{0, math.MinInt32, api.ErrArg},
		{0, 1 << 32, api.ErrArg},
		// The number of bits is examined before the number.
		{math.MaxUint32, -1, api.ErrArg},
		{math.MaxUint32, 33, api.ErrArg},
		{1, 0, api.ErrRange},
		{math.MaxUint32, 0, api.ErrRange},
		{2, 1, api.ErrRange},
		{8, 3, api.ErrRange},
		{256, 8, api.ErrRange},
		{1 << 31, 31, api.ErrRange},
		{math.MaxUint32, 31, api.ErrRange},
	} {
		for _, sequence := range []string{"", "011", "0110101", "01101011", "011010110"} {
			w := writerOf(t, sequence)
			if e := w.Put(c.v, c.n); e != c.e {
				t.Errorf("Put(%d, %d) = %d; want %d", c.v, c.n, e, c.e)
			}
			checkWriter(t, w, sequence)
			if e := w.Put(2, 2); e != api.OK {
				t.Errorf("Put(2, 2) after an error = %d", e)
			}
			checkWriter(t, w, sequence+"10")
		}
	}
}

func TestPutRangeAtEveryLength(t *testing.T) {
	for n := range 32 {
		w := bitio.NewWriter()
		if e := w.Put(1<<n, n); e != api.ErrRange {
			t.Errorf("Put(1<<%d, %d) = %d", n, n, e)
		}
		if e := w.Put(1<<n-1, n); e != api.OK {
			t.Errorf("Put(1<<%d-1, %d) = %d", n, n, e)
		}
		checkWriter(t, w, strings.Repeat("1", n))
	}
}

func TestWriterIsUsedFurther(t *testing.T) {
	random := rand.New(rand.NewPCG(1, 2))
	for range 200 {
		w, sequence := bitio.NewWriter(), ""
		checkWriter(t, w, sequence)
		for range 20 {
			v, n := randomNumber(random)
			if e := w.Put(v, n); e != api.OK {
				t.Fatalf("Put(%d, %d) = %d", v, n, e)
			}
			sequence += digitsOf(v, n)
			checkWriter(t, w, sequence)
			checkWriter(t, w, sequence)
		}
	}
}

func TestPayloadSharesNothing(t *testing.T) {
	for n := range 40 {
		sequence := strings.Repeat("10", n)[:n]
		w := writerOf(t, sequence)
		payload := w.Payload()
		w.Put(1, 1)
		w.Put(0x12345678, 32)
		if !bytes.Equal(payload, payloadOf(sequence)) {
			t.Errorf("a later Put changed the payload of %q to %v", sequence, payload)
		}
		payload = payload[:cap(payload)]
		for i := range payload {
			payload[i] = 0x77
		}
		checkWriter(t, w, sequence+"1"+digitsOf(0x12345678, 32))
	}
}

func TestWritersAreSeparate(t *testing.T) {
	a, b := bitio.NewWriter(), bitio.NewWriter()
	a.Put(5, 3)
	b.Put(0, 2)
	checkWriter(t, a, "101")
	checkWriter(t, b, "00")
}

func TestNewReaderErrors(t *testing.T) {
	for _, payload := range [][]byte{nil, {}, {0}, {0, 0}, {128, 0}, {1, 2, 3, 0}, {0, 0, 0, 0, 0, 0, 0, 0, 0}} {
		if r, e := bitio.NewReader(payload); r != nil || e != api.ErrForm {
			t.Errorf("NewReader(%v) = %v, %d", payload, r, e)
		}
	}
}

func TestReaderExample(t *testing.T) {
	r := readerOf(t, []byte{176})
	checkReader(t, r, 0, 3)
	checkTake(t, r, 2, 2, api.OK)
	checkReader(t, r, 2, 1)
	checkTake(t, r, 1, 1, api.OK)
	checkReader(t, r, 3, 0)
	checkTake(t, r, 1, 0, api.ErrShort)
	checkTake(t, r, 0, 0, api.OK)
	checkReader(t, r, 3, 0)
}

func TestReaderOfNoBits(t *testing.T) {
	r := readerOf(t, []byte{128})
	checkReader(t, r, 0, 0)
	checkTake(t, r, 0, 0, api.OK)
	checkTake(t, r, 1, 0, api.ErrShort)
	checkTake(t, r, 32, 0, api.ErrShort)
	checkReader(t, r, 0, 0)
}

// TestTakeAtEveryPlace takes every number of bits behind every number of bits.
func TestTakeAtEveryPlace(t *testing.T) {
	random := rand.New(rand.NewPCG(3, 4))
	for before := range 33 {
		for n := range 33 {
			sequence := randomSequence(random, before+n+random.IntN(10))
			r := readerOf(t, payloadOf(sequence))
			checkTake(t, r, before, numberOf(sequence[:before]), api.OK)
			checkReader(t, r, before, len(sequence)-before)
			checkTake(t, r, n, numberOf(sequence[before:before+n]), api.OK)
			checkReader(t, r, before+n, len(sequence)-before-n)
		}
	}
}

func TestTakeErrors(t *testing.T) {
	for _, sequence := range []string{"", "1", "0110", "01101011", "011010111", strings.Repeat("110", 30)} {
		for at := range min(len(sequence), 32) + 1 {
			r := readerOf(t, payloadOf(sequence))
			checkTake(t, r, at, numberOf(sequence[:at]), api.OK)
			left := len(sequence) - at
			for n := left + 1; n <= 32; n++ {
				checkTake(t, r, n, 0, api.ErrShort)
			}
			// The number of bits is examined before what is left.
			for _, n := range []int{-1, 33, 64, 1 << 32, math.MinInt32, math.MinInt, math.MaxInt} {
				checkTake(t, r, n, 0, api.ErrArg)
			}
			checkReader(t, r, at, left)
			// With an error the reader stays where it was.
			rest := min(left, 32)
			checkTake(t, r, rest, numberOf(sequence[at:at+rest]), api.OK)
			checkReader(t, r, at+rest, left-rest)
		}
	}
}

func TestReaderSharesNothing(t *testing.T) {
	sequence := "1011001110001111000011111"
	memory := append(payloadOf(sequence), 0x55, 0x55, 0x55)
	before := bytes.Clone(memory)
	payload := memory[:len(memory)-3]
	r := readerOf(t, payload)
	checkTake(t, r, 5, numberOf(sequence[:5]), api.OK)
	if !bytes.Equal(memory, before) {
		t.Errorf("the payload or the memory behind it became %v", memory)
	}
	clear(payload)
	checkTake(t, r, 20, numberOf(sequence[5:]), api.OK)
	checkReader(t, r, 25, 0)
}

func TestReadersAreSeparate(t *testing.T) {
	payload := []byte{176}
	a, b := readerOf(t, payload), readerOf(t, payload)
	checkTake(t, a, 3, 5, api.OK)
	checkReader(t, a, 3, 0)
	checkReader(t, b, 0, 3)
}

func TestNilWriter(t *testing.T) {
	var w *bitio.Writer
	for _, n := range []int{-1, 0, 1, 32, 33} {
		if e := w.Put(1, n); e != api.ErrArg {
			t.Errorf("Put(1, %d) of a nil writer = %d", n, e)
		}
	}
	if w.Len() != 0 || len(w.Payload()) != 0 {
		t.Errorf("a nil writer has %d bits and the payload %v", w.Len(), w.Payload())
	}
}

func TestNilReader(t *testing.T) {
	var r *bitio.Reader
	for _, n := range []int{-1, 0, 1, 32, 33} {
		checkTake(t, r, n, 0, api.ErrArg)
	}
	checkReader(t, r, 0, 0)
}

// sequenceOf takes all bits of a reader, in pieces of at most piece bits.
func sequenceOf(t *testing.T, r *bitio.Reader, piece int) string {
	t.Helper()
	sequence := ""
	for r.Left() > 0 {
		n := min(piece, r.Left())
		v, e := r.Take(n)
		if e != api.OK {
			t.Fatalf("Take(%d) = %d", n, e)
		}
		sequence += digitsOf(v, n)
	}
	checkTake(t, r, 1, 0, api.ErrShort)
	return sequence
}

// checkRoundTrip reads a payload and writes the bits again.
func checkRoundTrip(t *testing.T, payload []byte, seen map[string]bool) {
	t.Helper()
	sequence := sequenceOf(t, readerOf(t, payload), 7)
	if !bytes.Equal(payloadOf(sequence), payload) {
		t.Errorf("%v is read as %s", payload, sequence)
	}
	if again := writerOf(t, sequence).Payload(); !bytes.Equal(again, payload) {
		t.Errorf("%v is read and written as %v", payload, again)
	}
	if seen[sequence] {
		t.Errorf("%s has two payloads, %v is one", sequence, payload)
	}
	seen[sequence] = true
}

// TestEverySequenceHasOnePayload goes through all payloads of one and of two bytes.
func TestEverySequenceHasOnePayload(t *testing.T) {
	seen := map[string]bool{}
	for last := 1; last < 256; last++ {
		checkRoundTrip(t, []byte{byte(last)}, seen)
		for first := range 256 {
			checkRoundTrip(t, []byte{byte(first), byte(last)}, seen)
		}
	}
	// All sequences of 0 to 15 bits.
	if len(seen) != 1<<16-1 {
		t.Errorf("%d sequences have payloads of one or two bytes", len(seen))
	}
}

func TestLongSequences(t *testing.T) {
	random := rand.New(rand.NewPCG(5, 6))
	for length := range 600 {
		sequence := randomSequence(random, length)
		payload := payloadOf(sequence)
		if payload[len(payload)-1] == 0 {
			t.Errorf("the last byte of the payload of %s is 0", sequence)
		}
		checkWriter(t, writerOf(t, sequence), sequence)
		if got := sequenceOf(t, readerOf(t, payload), 1+length%32); got != sequence {
			t.Errorf("%s is read as %s", sequence, got)
		}
	}
}
