package rate

import (
	"sort"

	"inquest/api"
)

// Shares returns rates by which not more than most stay of all that came, as fair as may be.
func Shares(l []Share, most int) ([]Rate, api.Errno) {
	if e := checkAmounts(len(l), MaxSizes, func(i int) (string, int) { return l[i].Key, l[i].Came }); e != api.OK {
		return nil, e
	}
	if !within(most, 0, MaxSizes) {
		return nil, api.ErrRange
	}
	line := lineOf(l, most)
	var rates []Rate
	for _, s := range l {
		rates = append(rates, Rate{Key: s.Key, Keep: keep(s.Came, line)})
	}
	return rates, api.OK
}

// lineOf returns how many may stay of one key.
func lineOf(l []Share, most int) int {
	greatest := 0
	for _, s := range l {
		greatest = max(greatest, s.Came)
	}
	// What stays grows with the line: so this is the least line above which too many stay, or the greatest one.
	return sort.Search(greatest, func(line int) bool { return stay(l, line+1) > most })
}

// stay returns how many stay in all, if of each key there are at most as many as the line.
func stay(l []Share, line int) int {
	sum := 0
	for _, s := range l {
		sum += min(s.Came, line)
	}
	return sum
}

// keep returns the rate by which not more than the line stay.
func keep(came, line int) int {
	if came <= line {
		return Whole
	}
	return line * Whole / came
}
