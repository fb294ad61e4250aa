package rate

import (
	"strconv"

	"inquest/api"
	"inquest/event"
)

const half = 32 // bits of a half of a digest

// Sample tells whether an event with an id is kept at a rate.
func Sample(id string, rate int) (bool, api.Errno) {
	switch {
	case len(id) > api.MaxWord:
		return false, api.ErrLarge
	case !within(rate, 0, Whole):
		return false, api.ErrRange
	}
	return sampled(id, rate), api.OK
}

func sampled(id string, rate int) bool { return upper(id)*Whole < rate<<half }

// upper returns the upper half of the digest of a string: half of the digits of its Sum, which is the same digest.
func upper(s string) int {
	digits := event.Sum(s)
	n, _ := strconv.ParseUint(digits[:len(digits)/2], 16, half) // it has nothing but digits
	return int(n)
}

// Stands returns for how many events those stand that were kept at rates.
func Stands(rates []int) (int, api.Errno) {
	if e := checkNumbers(rates, 1, Whole); e != api.OK {
		return 0, e
	}
	sum := 0
	for _, rate := range rates {
		sum += stands(rate)
	}
	return (sum + Whole/2) / Whole, api.OK
}

// stands returns for how many events one stands that was kept at a rate, in millionths.
func stands(rate int) int { return Whole * Whole / rate }
