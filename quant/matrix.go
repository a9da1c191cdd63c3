package quant

const (
	minEntry = 8   // the least entry of a valid matrix
	maxEntry = 255 // the greatest number that an entry can be
)

// DefaultIntra returns the default matrix of intra blocks.
func DefaultIntra() [64]byte {
	return [64]byte{
		8, 16, 19, 22, 26, 27, 29, 34,
		16, 16, 22, 24, 27, 29, 34, 37,
		19, 22, 26, 27, 29, 34, 34, 38,
		22, 22, 26, 27, 29, 34, 37, 40,
		22, 26, 27, 29, 32, 35, 40, 48,
		26, 27, 29, 32, 35, 40, 48, 58,
		26, 27, 29, 34, 38, 46, 56, 69,
		27, 29, 35, 38, 46, 56, 69, 83,
	}
}

// DefaultInter returns the default matrix of predicted blocks.
func DefaultInter() [64]byte {
	var m [64]byte
	for k := range m {
		m[k] = 16
	}
	return m
}

// Valid reports whether a matrix is valid.
func Valid(m [64]byte) bool {
	for _, entry := range m {
		if entry < minEntry {
			return false
		}
	}
	return true
}
