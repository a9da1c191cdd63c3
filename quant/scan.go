package quant

import "slices"

// Scan returns the order in which the elements of a block are coded: the index of the element at each position.
func Scan(alternate bool) [64]int {
	if alternate {
		return columnwise()
	}
	return zigzag()
}

// ToScan returns a block's elements in the order of Scan.
func ToScan(l [64]int, alternate bool) [64]int {
	var scanned [64]int
	for position, k := range Scan(alternate) {
		scanned[position] = l[k]
	}
	return scanned
}

// FromScan is the inverse of ToScan.
func FromScan(l [64]int, alternate bool) [64]int {
	var block [64]int
	for position, k := range Scan(alternate) {
		block[k] = l[position]
	}
	return block
}

// zigzag returns the elements diagonal by diagonal, upwards and downwards in turn.
func zigzag() [64]int {
	var order [64]int
	for k := range order {
		order[k] = k
	}
	slices.SortFunc(order[:], func(a, b int) int {
		rowA, rowB := a/size, b/size
		diagonalA, diagonalB := rowA+a%size, rowB+b%size
		switch {
		case diagonalA != diagonalB:
			return diagonalA - diagonalB
		case diagonalA%2 == 1:
			return rowA - rowB
		default:
			return rowB - rowA
		}
	})
	return order
}

// columnwise returns the alternate order, which suits the rows of two fields: it descends faster than it goes to the right.
func columnwise() [64]int {
	return [64]int{
		0, 8, 16, 24, 1, 9, 2, 10, 17, 25, 32, 40, 48, 56, 57, 49,
		41, 33, 26, 18, 3, 11, 4, 12, 19, 27, 34, 42, 50, 58, 35, 43,
		51, 59, 20, 28, 5, 13, 6, 14, 21, 29, 36, 44, 52, 60, 37, 45,
		53, 61, 22, 30, 7, 15, 23, 31, 38, 46, 54, 62, 39, 47, 55, 63,
	}
}
