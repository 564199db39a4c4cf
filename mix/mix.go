// Package mix is layer 1: see shared/doc/01-mix.md.
package mix

const (
	firstFactor  = 0xBF58476D1CE4E5B9
	secondFactor = 0x94D049BB133111EB
	textStart    = 0x9E3779B97F4A7C15

	// rangeShift leaves the six highest bits: as many values as api.Ranges.
	rangeShift = 58
)

// Mix is a number, mixed.
func Mix(x uint64) uint64 {
	x = (x ^ x>>30) * firstFactor
	x = (x ^ x>>27) * secondFactor
	return x ^ x>>31
}

// Text is a text's number.
func Text(s string) uint64 {
	h := uint64(textStart)
	// By index, as a range over a string would go by runes, not bytes.
	for i := range len(s) {
		h = Mix(h ^ uint64(s[i]))
	}
	return Mix(h ^ uint64(len(s)))
}

// Two is two numbers' number.
func Two(x, y uint64) uint64 { return Mix(Mix(x) ^ y) }

// Range is a key's range.
func Range(key string) int { return int(Text(key) >> rangeShift) }
