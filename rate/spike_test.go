package rate_test

import (
	"math/rand"
	"slices"
	"testing"

	"inquest/api"
	"inquest/rate"
)

// P7.4
func TestSpike(t *testing.T) {
	full := append(slices.Repeat([]int{most}, rate.MaxCounts-1), 5)
	for i, c := range []struct {
		l              []int
		percent, least int
		is             bool
		mark           int
	}{
		{[]int{10, 20, 30, 40, 31}, 150, 0, true, 30},
		{[]int{10, 20, 30, 40, 30}, 150, 0, false, 30},
		{[]int{40, 10, 30, 20, 31}, 150, 0, true, 30},
		{[]int{40, 10, 30, 20, 25, 38}, 150, 0, false, 38}, // 37.5
		{[]int{40, 10, 30, 20, 25, 39}, 150, 0, true, 38},
		{[]int{3, 5}, 150, 0, false, 5},
		{[]int{3, 6}, 150, 0, true, 5},
		{[]int{1, 1}, 1, 0, false, 1}, // 0.01
		{[]int{1, 2}, 100, 0, true, 1},
		{[]int{1, 2}, 101, 0, false, 2},
		{[]int{0, 9}, 300, 10, false, 10},
		{[]int{0, 10}, 300, 10, false, 10},
		{[]int{0, 11}, 300, 10, true, 10},
		{[]int{4, 12}, 300, 10, false, 12},
		{[]int{7, 1, 4, 100}, 200, 0, true, 8},
		{[]int{5, 5}, 0, 0, true, 0},
		{[]int{5, 0}, 0, 0, false, 0},
		{[]int{0, 0}, 100_000, 0, false, 0},
		{[]int{most, most}, 99, 0, true, 990_000_000},
		{[]int{most, most}, 100_000, most, false, 1_000_000_000_000},
		{[]int{0, most}, 0, most, false, most},
		{full, 100_000, 0, false, 1_000_000_000_000},
	} {
		if is, mark, e := rate.Spike(c.l, c.percent, c.least); is != c.is || mark != c.mark || e != api.OK {
			t.Error(i, is, mark, e)
		}
	}
}

// plainMark is a plain reading of P7.4.
func plainMark(before []int, percent, least int) int {
	l := slices.Clone(before)
	// As long as there is more than one or two, the least and the greatest one go.
	for len(l) > 2 {
		l = slices.Delete(l, slices.Index(l, slices.Max(l)), slices.Index(l, slices.Max(l))+1)
		l = slices.Delete(l, slices.Index(l, slices.Min(l)), slices.Index(l, slices.Min(l))+1)
	}
	mark := 0
	for mark*100 < slices.Min(l)*percent || mark < least {
		mark++
	}
	return mark
}

// P7.4: plain readings.
func TestSpikePlainly(t *testing.T) {
	r := rand.New(rand.NewSource(5))
	for range 20_000 {
		var l []int
		for range 2 + r.Intn(9) {
			l = append(l, r.Intn(30))
		}
		percent, least := r.Intn(300), r.Intn(1+r.Intn(40))
		last := len(l) - 1
		want := plainMark(l[:last], percent, least)
		if is, mark, e := rate.Spike(l, percent, least); is != (l[last] > want) || mark != want || e != api.OK {
			t.Fatal(l, percent, least, is, mark, e, want)
		}
	}
}

// P7.4: errors, in order.
func TestSpikeErrors(t *testing.T) {
	type bad struct {
		l              []int
		percent, least int
		want           api.Errno
	}
	full := make([]int, rate.MaxCounts)
	cases := []bad{
		{nil, -1, -1, api.ErrNone}, {[]int{-1}, 0, 0, api.ErrNone}, {[]int{5}, 100, 0, api.ErrNone},
		{append(full, -1), -1, -1, api.ErrLarge}, {append(full, 0), 0, 0, api.ErrLarge},
		{full, 0, 0, api.OK},
	}
	for _, n := range outside(0, most) {
		cases = append(cases, bad{[]int{1, n}, 0, 0, api.ErrRange}, bad{[]int{n, 1}, 0, 0, api.ErrRange}, bad{[]int{1, 2}, 0, n, api.ErrRange})
	}
	for _, n := range outside(0, 100_000) {
		cases = append(cases, bad{[]int{1, 2}, n, 0, api.ErrRange})
	}
	for i, c := range cases {
		if is, mark, e := rate.Spike(c.l, c.percent, c.least); is || mark != 0 || e != c.want {
			t.Errorf("%d: %v %d %v, not %v", i, is, mark, e, c.want)
		}
	}
}
