package quant_test

import (
	"math"
	"math/rand/v2"
	"testing"

	"cutroom/quant"
)

// scans are the two orders of 6.1.
var scans = map[bool][64]int{
	false: {
		0, 1, 8, 16, 9, 2, 3, 10, 17, 24, 32, 25, 18, 11, 4, 5, 12, 19, 26, 33, 40, 48, 41, 34, 27, 20, 13, 6, 7, 14, 21, 28,
		35, 42, 49, 56, 57, 50, 43, 36, 29, 22, 15, 23, 30, 37, 44, 51, 58, 59, 52, 45, 38, 31, 39, 46, 53, 60, 61, 54, 47, 55, 62, 63,
	},
	true: {
		0, 8, 16, 24, 1, 9, 2, 10, 17, 25, 32, 40, 48, 56, 57, 49, 41, 33, 26, 18, 3, 11, 4, 12, 19, 27, 34, 42, 50, 58, 35, 43,
		51, 59, 20, 28, 5, 13, 6, 14, 21, 29, 36, 44, 52, 60, 37, 45, 53, 61, 22, 30, 7, 15, 23, 31, 38, 46, 54, 62, 39, 47, 55, 63,
	},
}

func TestScan(t *testing.T) {
	for alternate, want := range scans {
		if got := quant.Scan(alternate); got != want {
			t.Errorf("Scan(%t) = %v", alternate, got)
		}
	}
}

// TestZigzag: the zigzag order by the words of 6.1.
func TestZigzag(t *testing.T) {
	order := quant.Scan(false)
	for p := 1; p < 64; p++ {
		row, column := order[p]/8, order[p]%8
		rowBefore, columnBefore := order[p-1]/8, order[p-1]%8
		sum, sumBefore := row+column, rowBefore+columnBefore
		switch {
		case sum < sumBefore, sum > sumBefore+1:
			t.Errorf("%d comes after %d", order[p], order[p-1])
		case sum == sumBefore && sum%2 == 1 && row <= rowBefore:
			t.Errorf("%d comes after %d, though their sums are odd", order[p], order[p-1])
		case sum == sumBefore && sum%2 == 0 && row >= rowBefore:
			t.Errorf("%d comes after %d, though their sums are even", order[p], order[p-1])
		}
	}
}

// TestScansAreComplete: each element has one position.
func TestScansAreComplete(t *testing.T) {
	for _, alternate := range []bool{false, true} {
		seen := map[int]bool{}
		for _, k := range quant.Scan(alternate) {
			if k < 0 || k > 63 || seen[k] {
				t.Errorf("Scan(%t) contains %d", alternate, k)
			}
			seen[k] = true
		}
	}
}

func TestScanned(t *testing.T) {
	random := rand.New(rand.NewPCG(6, 3))
	blocks := [][64]int{{}, alone(0, math.MinInt), alone(63, math.MaxInt)}
	for range 100 {
		var block [64]int
		for k := range block {
			block[k] = int(random.Uint64())
		}
		blocks = append(blocks, block)
	}
	for k := range 64 {
		blocks = append(blocks, alone(k, k+1))
	}
	for alternate, order := range scans {
		for _, block := range blocks {
			checkScanned(t, block, order, alternate)
		}
	}
}

func checkScanned(t *testing.T, block, order [64]int, alternate bool) {
	t.Helper()
	scanned, back := quant.ToScan(block, alternate), quant.FromScan(block, alternate)
	for p, k := range order {
		if scanned[p] != block[k] {
			t.Fatalf("ToScan(%v, %t) = %v", block, alternate, scanned)
		}
		if back[k] != block[p] {
			t.Fatalf("FromScan(%v, %t) = %v", block, alternate, back)
		}
	}
	if quant.FromScan(scanned, alternate) != block || quant.ToScan(back, alternate) != block {
		t.Errorf("ToScan and FromScan of %v, %t are not inverse", block, alternate)
	}
}
