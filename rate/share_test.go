package rate_test

import (
	"math/rand"
	"slices"
	"testing"

	"inquest/api"
	"inquest/rate"
)

// shares has a key for each number of what came.
func shares(l ...int) (r []rate.Share) {
	for i, n := range l {
		r = append(r, rate.Share{Key: name(i), Came: n})
	}
	return r
}

// rates has a key for each rate.
func rates(l ...int) (r []rate.Rate) {
	for i, n := range l {
		r = append(r, rate.Rate{Key: name(i), Keep: n})
	}
	return r
}

// P7.3
func TestShares(t *testing.T) {
	const all = rate.Whole
	for i, c := range []struct {
		came []int
		most int
		want []int
	}{
		{nil, 0, nil},
		{nil, most, nil},
		{[]int{100, 10, 1}, 31, []int{200_000, all, all}},
		{[]int{100, 10, 1}, 32, []int{210_000, all, all}},
		{[]int{1, 100, 10}, 20, []int{all, 90_000, 900_000}},
		{[]int{1, 100, 10}, 21, []int{all, 100_000, all}},
		{[]int{100, 10, 1}, 110, []int{990_000, all, all}},
		{[]int{100, 10, 1}, 111, []int{all, all, all}},
		{[]int{100, 10, 1}, most, []int{all, all, all}},
		{[]int{100, 10, 1}, 4, []int{10_000, 100_000, all}},
		{[]int{100, 10, 1}, 2, []int{0, 0, 0}},
		{[]int{100, 10, 1}, 0, []int{0, 0, 0}},
		{[]int{0, 5, 0}, 0, []int{all, 0, all}},
		{[]int{0, 0}, 0, []int{all, all}},
		{[]int{3, 3, 3}, 8, []int{666_666, 666_666, 666_666}},
		{[]int{7, 7}, 13, []int{857_142, 857_142}},
		{[]int{most}, most, []int{all}},
		{[]int{most}, most - 1, []int{999_999}},
		{[]int{most}, 999, []int{0}},
		{[]int{most, most}, most, []int{500_000, 500_000}},
		{slices.Repeat([]int{most}, rate.MaxKeys), most, slices.Repeat([]int{5000}, rate.MaxKeys)},
	} {
		got, e := rate.Shares(shares(c.came...), c.most)
		if !slices.Equal(got, rates(c.want...)) || e != api.OK {
			t.Error(i, got, e)
		}
	}
	var l []rate.Share
	for _, key := range goodKeys() {
		l = append(l, rate.Share{Key: key, Came: 2})
	}
	got, e := rate.Shares(l, 5)
	for i, key := range goodKeys() {
		if e != api.OK || len(got) != len(l) || got[i] != (rate.Rate{Key: key, Keep: 500_000}) {
			t.Error(i, got, e)
		}
	}
}

// plainLine is a plain reading of P7.3: the line, one after the other.
func plainLine(came []int, most int) int {
	line := 0
	for len(came) > 0 && line < slices.Max(came) {
		sum := 0
		for _, n := range came {
			sum += min(n, line+1)
		}
		if sum > most {
			break
		}
		line++
	}
	return line
}

// P7.3: plain readings of Shares.
func TestSharesPlainly(t *testing.T) {
	r := rand.New(rand.NewSource(4))
	for range 20_000 {
		var came, want []int
		for range r.Intn(8) {
			came = append(came, r.Intn(1+r.Intn(60)))
		}
		most := r.Intn(200)
		line := plainLine(came, most)
		stay := 0
		for _, n := range came {
			keep := rate.Whole
			if n > line {
				keep = line * rate.Whole / n
			}
			want = append(want, keep)
			stay += n * keep / rate.Whole
		}
		got, e := rate.Shares(shares(came...), most)
		if !slices.Equal(got, rates(want...)) || e != api.OK {
			t.Fatal(came, most, got, e, want)
		}
		if stay > most {
			t.Fatal(came, most, stay)
		}
	}
}

// P7.3: errors of Shares, in order.
func TestSharesErrors(t *testing.T) {
	full := make([]int, rate.MaxKeys)
	first := rate.Share{Key: "a", Came: 1}
	type bad struct {
		l    []rate.Share
		want api.Errno
	}
	cases := []bad{
		{append(shares(full...), rate.Share{Key: "\n", Came: -1}), api.ErrLarge},
		{append(shares(full[1:]...), rate.Share{Key: name(0), Came: -1}), api.ErrTwice},
		{[]rate.Share{{Came: 1}, {Came: 2}}, api.ErrTwice},
		{[]rate.Share{first, {Key: "b"}, first}, api.ErrTwice},
		{[]rate.Share{{Key: "a", Came: -1}, {Key: "\n"}, {Key: "a"}}, api.ErrRange},
	}
	for _, c := range badKeys() {
		cases = append(cases, bad{[]rate.Share{first, {Key: c.key, Came: -1}, first}, c.want})
	}
	for _, n := range outside(0, most) {
		cases = append(cases, bad{[]rate.Share{first, {Key: "b", Came: n}, first}, api.ErrRange})
	}
	for i, c := range cases {
		for _, n := range []int{-1, 0, 9} {
			if r, e := rate.Shares(c.l, n); len(r) > 0 || e != c.want {
				t.Errorf("%d: %v %v, not %v", i, r, e, c.want)
			}
		}
	}
	for _, n := range outside(0, most) {
		for _, l := range [][]rate.Share{nil, {first}} {
			if r, e := rate.Shares(l, n); len(r) > 0 || e != api.ErrRange {
				t.Error(n, r, e)
			}
		}
	}
}
