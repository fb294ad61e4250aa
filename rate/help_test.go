package rate_test

import (
	"math"
	"math/rand"
	"strings"
	"testing"

	"inquest/api"
	"inquest/rate"
)

// word is a string of so many bytes.
func word(n int) string { return strings.Repeat("w", n) }

// oneOf is one of some strings.
func oneOf(r *rand.Rand, l ...string) string { return l[r.Intn(len(l))] }

// name is the name with a number.
func name(n int) string { return "n" + string(rune('a'+n/26)) + string(rune('a'+n%26)) }

// outside are numbers that are not from least to most.
func outside(least, most int) []int {
	return []int{least - 1, most + 1, math.MinInt, math.MaxInt}
}

// small is a bucket with a level, as in the chapter's example.
func small() (rate.Bucket, rate.Level) {
	return rate.Bucket{Size: 10, Add: 2, Every: 5}, rate.Level{Has: 3, At: 100, Rest: 4}
}

// badBuckets have an error each.
func badBuckets() (l []rate.Bucket) {
	for _, n := range outside(1, rate.MaxSizes) {
		l = append(l, rate.Bucket{Size: n, Add: 1, Every: 1}, rate.Bucket{Size: 1, Add: n, Every: 1})
	}
	for _, n := range outside(1, api.DayLong) {
		l = append(l, rate.Bucket{Size: 1, Add: 1, Every: n})
	}
	return append(l, rate.Bucket{})
}

// badLevels are not right for the small bucket.
func badLevels() (l []rate.Level) {
	for _, n := range outside(0, 10) {
		l = append(l, rate.Level{Has: n})
	}
	for _, n := range outside(0, api.MaxMoment) {
		l = append(l, rate.Level{At: n})
	}
	for _, n := range outside(0, 4) {
		l = append(l, rate.Level{Rest: n})
	}
	return l
}

// badKey is a key with its error.
type badKey struct {
	key  string
	want api.Errno
}

func badKeys() []badKey {
	return []badKey{
		{word(201), api.ErrLarge}, {word(200) + "\n", api.ErrLarge}, {word(1_000_000), api.ErrLarge},
		{"\x1f", api.ErrByte}, {"a\x7f", api.ErrByte}, {"\x80b", api.ErrByte}, {"a\nb", api.ErrByte}, {"\x00", api.ErrByte}, {"\xff", api.ErrByte}, {word(199) + "\t", api.ErrByte},
	}
}

// goodKeys have the least and the greatest bytes, and lengths.
func goodKeys() []string { return []string{"", " ", "~", "A b~", word(200)} }

// quota is a good one.
func quota(name, key string, size, add, every int) rate.Quota {
	return rate.Quota{Name: name, Key: key, Bucket: rate.Bucket{Size: size, Add: add, Every: every}}
}

// gate makes one without errors.
func gate(t *testing.T, l []rate.Quota, rates []rate.Rate, at int) *rate.Gate {
	t.Helper()
	g, e := rate.NewGate(l, rates, at)
	if e != api.OK || g == nil {
		t.Fatal(l, rates, at, e)
	}
	return g
}
