package rate

import (
	"slices"

	"inquest/api"
)

const (
	mostPercent = 100_000
	hundred     = 100 // percent of all
)

// Spike tells whether the last one of counts is much more than those before it; the int is the mark that it is held against.
func Spike(l []int, percent, least int) (bool, int, api.Errno) {
	if len(l) < 2 {
		return false, 0, api.ErrNone
	}
	if e := checkNumbers(l, 0, MaxSizes); e != api.OK {
		return false, 0, e
	}
	if !within(percent, 0, mostPercent) || !within(least, 0, MaxSizes) {
		return false, 0, api.ErrRange
	}
	last := len(l) - 1
	up := (middle(l[:last])*percent + hundred - 1) / hundred
	mark := max(up, least)
	return l[last] > mark, mark, api.OK
}

// middle returns the middle one of numbers, or the lesser one of both in the middle.
func middle(l []int) int {
	sorted := slices.Sorted(slices.Values(l))
	return sorted[(len(sorted)-1)/2]
}
