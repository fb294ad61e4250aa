package event

import (
	"strconv"
	"strings"
)

// The digest is FNV-1a with 64 bits.
const (
	sumStart  = 14695981039346656037
	sumFactor = 1099511628211
)

// Sum returns a digest of a string.
func Sum(s string) string { return sumText(sumOn(sumStart, s)) }

// sumOn goes on with a sum over a string.
func sumOn(sum uint64, s string) uint64 {
	for i := range len(s) {
		sum = (sum ^ uint64(s[i])) * sumFactor
	}
	return sum
}

// sumText writes a sum.
func sumText(sum uint64) string {
	digits := strconv.FormatUint(sum, 16)
	return strings.Repeat("0", idLong-len(digits)) + digits
}

const (
	lows      = 256 // values of the lowest byte of a sum
	tableFrom = 64  // bytes of a rope: for a shorter one a table is not worth its memory
)

// summer goes on with sums over ropes. Of a sum a byte of a string changes the lowest byte alone, and what is above that is only multiplied: so a table of what becomes of each lowest byte tells what becomes of each sum.
type summer map[*rope]*[lows]uint64

func (s summer) on(sum uint64, r *rope) uint64 {
	switch {
	case len(r.parts) == 0:
		return sumOn(sum, r.text)
	case r.long < tableFrom:
		return s.onAll(sum, r.parts)
	}
	table, known := s[r]
	if !known {
		table = new([lows]uint64)
		for low := range table {
			table[low] = s.onAll(uint64(low), r.parts)
		}
		s[r] = table
	}
	low := sum % lows
	return table[low] + (sum-low)*r.factor
}

func (s summer) onAll(sum uint64, l []*rope) uint64 {
	for _, part := range l {
		sum = s.on(sum, part)
	}
	return sum
}
