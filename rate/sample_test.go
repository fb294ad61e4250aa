package rate_test

import (
	"hash/fnv"
	"math"
	"math/big"
	"math/rand"
	"slices"
	"strconv"
	"testing"

	"inquest/api"
	"inquest/rate"
)

// P7.2
func TestCheckQuotas(t *testing.T) {
	var full []rate.Quota
	for i := range rate.MaxQuotas {
		full = append(full, quota(name(i), "k", 1, 1, 1))
	}
	good := [][]rate.Quota{nil, full, {quota("a", "k", 1, 1, 1), quota("b", "k", most, most, api.DayLong)}, {quota("az-._09"+word(33), "", 1, 1, 1)}}
	for _, key := range goodKeys() {
		good = append(good, []rate.Quota{quota("a", key, 1, 1, 1)})
	}
	for i, l := range good {
		if e := rate.CheckQuotas(l); e != api.OK {
			t.Error(i, e)
		}
	}
	// The errors of each one come in the order of the fields, and before those of the next one.
	type bad struct {
		l    []rate.Quota
		want api.Errno
	}
	first := quota("a", "k", 1, 1, 1)
	cases := []bad{
		{append(full, rate.Quota{}), api.ErrLarge},
		{[]rate.Quota{first, quota("a", word(201), 0, 0, 0)}, api.ErrTwice},
		{[]rate.Quota{first, quota("b", "", 1, 1, 1), first}, api.ErrTwice},
		{[]rate.Quota{quota("a", "", 1, 1, 0), first, {}}, api.ErrRange},
		{[]rate.Quota{quota("a", "\n", 1, 1, 0), {}}, api.ErrByte},
	}
	for _, n := range []string{"", "A", "1a", "-a", ".", "_", "a b", "aB", "a/", "a\xff", "a\n", word(41)} {
		cases = append(cases, bad{[]rate.Quota{first, {Name: n, Key: "\n"}}, api.ErrName})
	}
	for _, c := range badKeys() {
		cases = append(cases, bad{[]rate.Quota{first, {Name: "b", Key: c.key}}, c.want})
	}
	for _, b := range badBuckets() {
		cases = append(cases, bad{[]rate.Quota{first, {Name: "b", Key: "k", Bucket: b}}, api.ErrRange})
	}
	for i, c := range cases {
		if e := rate.CheckQuotas(c.l); e != c.want {
			t.Errorf("%d: %v, not %v", i, e, c.want)
		}
		if g, e := rate.NewGate(c.l, []rate.Rate{{Keep: -1}}, -1); g != nil || e != c.want {
			t.Errorf("NewGate, %d: %v, not %v", i, e, c.want)
		}
	}
}

// leastRate is a plain reading of P7.2: the least rate at which an id is kept.
func leastRate(id string) int {
	h := fnv.New64a()
	h.Write([]byte(id))
	n := new(big.Int).SetUint64(h.Sum64() >> 32)
	n.Mul(n, big.NewInt(rate.Whole))
	return int(n.Rsh(n, 32).Int64()) + 1
}

// P7.2
func TestSample(t *testing.T) {
	ids := []string{"", "a", "0123456789abcdef", "\x00", "\xff\xfe\n", word(200), "03695a04"}
	r := rand.New(rand.NewSource(2))
	for range 2000 {
		ids = append(ids, strconv.FormatUint(r.Uint64(), 36))
	}
	kept := 0
	for _, id := range ids {
		least := leastRate(id)
		if least <= 300_000 {
			kept++
		}
		for _, n := range []int{0, 1, least - 1, least, least + 1, 500_000, rate.Whole - 1, rate.Whole} {
			if is, e := rate.Sample(id, min(n, rate.Whole)); is != (min(n, rate.Whole) >= least) || e != api.OK {
				t.Fatalf("%q %d: %v %v", id, n, is, e)
			}
		}
	}
	if kept < 540 || kept > 660 {
		t.Error("kept at 300,000:", kept, "of", len(ids))
	}
	// Of this one the digest divided by 2^32 is just 0.625 times 2^32.
	if is, _ := rate.Sample("03695a04", 625_000); is {
		t.Error("625000")
	}
	if is, _ := rate.Sample("03695a04", 625_001); !is {
		t.Error("625001")
	}
}

// P7.2: errors of Sample.
func TestSampleErrors(t *testing.T) {
	for _, n := range outside(0, rate.Whole) {
		if is, e := rate.Sample("a", n); is || e != api.ErrRange {
			t.Error(n, is, e)
		}
		if is, e := rate.Sample(word(201), n); is || e != api.ErrLarge {
			t.Error(n, is, e)
		}
	}
	if is, e := rate.Sample(word(201), rate.Whole); is || e != api.ErrLarge {
		t.Error(is, e)
	}
}

// P7.3
func TestStands(t *testing.T) {
	full := slices.Repeat([]int{1}, rate.MaxCounts)
	for _, c := range []struct {
		rates []int
		want  int
		e     api.Errno
	}{
		{nil, 0, api.OK},
		{[]int{rate.Whole}, 1, api.OK},
		{[]int{500_000, 300_000}, 5, api.OK},
		{[]int{400_000}, 3, api.OK},          // 2,500,000 millionths
		{[]int{400_001}, 2, api.OK},          // 2,499,993
		{[]int{666_667, 999_999}, 3, api.OK}, // 1,499,999 and 1,000,001
		{[]int{666_667, 500_000}, 3, api.OK}, // 1,499,999 and 2,000,000
		{[]int{666_666, 500_000}, 4, api.OK}, // 1,500,001 and 2,000,000
		{[]int{300_005, 857_102}, 4, api.OK}, // 3,333,277 and 1,166,722, and with what was rounded down a little more than 4,500,000
		{[]int{1}, 1_000_000, api.OK},
		{full, 1_000_000_000, api.OK},
		{append(full, 0), 0, api.ErrLarge},
		{[]int{1, 0}, 0, api.ErrRange},
		{[]int{1, -1}, 0, api.ErrRange},
		{[]int{rate.Whole + 1, 1}, 0, api.ErrRange},
		{[]int{math.MinInt}, 0, api.ErrRange},
		{[]int{1, math.MaxInt}, 0, api.ErrRange},
	} {
		if n, e := rate.Stands(c.rates); n != c.want || e != c.e {
			t.Errorf("%.60v: %d %v", c.rates, n, e)
		}
	}
}

// P7.3: plain readings of Stands.
func TestStandsPlainly(t *testing.T) {
	r := rand.New(rand.NewSource(3))
	for range 5000 {
		var l []int
		sum := new(big.Int)
		for range r.Intn(9) {
			n := 1 + r.Intn(1+r.Intn(rate.Whole))
			l = append(l, n)
			sum.Add(sum, new(big.Int).Div(big.NewInt(1_000_000_000_000), big.NewInt(int64(n))))
		}
		// Rounded, halves up: twice the sum and a Whole, divided by two Wholes.
		sum.Add(sum.Lsh(sum, 1), big.NewInt(rate.Whole))
		want := int(sum.Div(sum, big.NewInt(2*rate.Whole)).Int64())
		if n, e := rate.Stands(l); n != want || e != api.OK {
			t.Fatal(l, n, e, want)
		}
	}
}
