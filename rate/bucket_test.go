package rate_test

import (
	"math"
	"math/rand"
	"testing"

	"inquest/api"
	"inquest/rate"
)

const most = rate.MaxSizes

// P7.1
func TestCheckBucket(t *testing.T) {
	for _, b := range []rate.Bucket{{1, 1, 1}, {most, most, api.DayLong}, {1, most, 1}, {10, 2, 5}} {
		if e := rate.CheckBucket(b); e != api.OK {
			t.Error(b, e)
		}
	}
	for _, b := range badBuckets() {
		if e := rate.CheckBucket(b); e != api.ErrRange {
			t.Error(b, e)
		}
	}
}

// P7.1
func TestFull(t *testing.T) {
	b, _ := small()
	for _, at := range []int{0, 7, api.MaxMoment} {
		if x, e := rate.Full(b, at); x != (rate.Level{Has: 10, At: at}) || e != api.OK {
			t.Error(at, x, e)
		}
	}
	for _, at := range outside(0, api.MaxMoment) {
		if x, e := rate.Full(b, at); x != (rate.Level{}) || e != api.ErrRange {
			t.Error(at, x, e)
		}
	}
}

// P7.1
func TestPour(t *testing.T) {
	b, x := small()
	const end = api.MaxMoment
	for i, c := range []struct {
		bucket rate.Bucket
		level  rate.Level
		at     int
		want   rate.Level
	}{
		{b, x, 100, x},
		{b, x, 101, rate.Level{Has: 5, At: 101}},
		{b, x, 105, rate.Level{Has: 5, At: 105, Rest: 4}},
		{b, x, 112, rate.Level{Has: 9, At: 112, Rest: 1}},
		{b, x, 116, rate.Level{Has: 10, At: 116}},
		{b, x, 118, rate.Level{Has: 10, At: 118, Rest: 2}},
		{b, rate.Level{Has: 10, At: 0, Rest: 0}, 9, rate.Level{Has: 10, At: 9, Rest: 4}},
		{b, rate.Level{}, 4, rate.Level{At: 4, Rest: 4}},
		{b, rate.Level{}, end, rate.Level{Has: 10, At: end, Rest: end % 5}},
		{rate.Bucket{Size: most, Add: most, Every: 1}, rate.Level{}, 0, rate.Level{}},
		{rate.Bucket{Size: most, Add: most, Every: 1}, rate.Level{}, 1, rate.Level{Has: most, At: 1}},
		{rate.Bucket{Size: most, Add: most, Every: 1}, rate.Level{Has: most}, end, rate.Level{Has: most, At: end}},
		{rate.Bucket{Size: most, Add: most, Every: api.DayLong}, rate.Level{Has: most, Rest: api.DayLong - 1}, end, rate.Level{Has: most, At: end, Rest: api.DayLong - 2}},
		{rate.Bucket{Size: most, Add: 1, Every: api.DayLong}, rate.Level{Has: 7, Rest: 86_399}, end, rate.Level{Has: 7 + (end+86_399)/86_400, At: end, Rest: (end + 86_399) % 86_400}},
	} {
		if y, e := rate.Pour(c.bucket, c.level, c.at); y != c.want || e != api.OK {
			t.Error(i, y, e)
		}
	}
}

// plainLevel is a plain reading of P7.1: second by second.
func plainLevel(b rate.Bucket, x rate.Level, at int) rate.Level {
	for x.At < at {
		x.At++
		x.Rest++
		if x.Rest == b.Every {
			x.Rest = 0
			x.Has = min(b.Size, x.Has+b.Add)
		}
	}
	return x
}

// randomBucket is one with a level that is right for it.
func randomBucket(r *rand.Rand) (rate.Bucket, rate.Level) {
	b := rate.Bucket{Size: 1 + r.Intn(20), Add: 1 + r.Intn(8), Every: 1 + r.Intn(9)}
	return b, rate.Level{Has: r.Intn(b.Size + 1), At: r.Intn(50), Rest: r.Intn(b.Every)}
}

// P7.1: plain readings, and what follows.
func TestBucketsPlainly(t *testing.T) {
	r := rand.New(rand.NewSource(1))
	for range 20_000 {
		b, x := randomBucket(r)
		at, n := x.At+r.Intn(60), r.Intn(b.Size+1)
		want := plainLevel(b, x, at)
		got, e := rate.Pour(b, x, at)
		if got != want || e != api.OK {
			t.Fatal(b, x, at, got, e, want)
		}
		half, _ := rate.Pour(b, x, x.At+r.Intn(at-x.At+1))
		if got, e := rate.Pour(b, half, at); got != want || e != api.OK {
			t.Fatal("in two steps", b, x, half, at, got, e, want)
		}
		enough := want.Has >= n
		if enough {
			want.Has -= n
		}
		if got, is, e := rate.Take(b, x, at, n); got != want || is != enough || e != api.OK {
			t.Fatal(b, x, at, n, got, is, e, want)
		}
		seconds := 0
		for plainLevel(b, x, x.At+seconds).Has < n {
			seconds++
		}
		if got, e := rate.Wait(b, x, n); got != seconds || e != api.OK {
			t.Fatal(b, x, n, got, e, seconds)
		}
	}
}

// P7.1
func TestTake(t *testing.T) {
	b, x := small()
	for i, c := range []struct {
		at, n int
		want  rate.Level
		is    bool
	}{
		{100, 0, x, true},
		{100, 3, rate.Level{At: 100, Rest: 4}, true},
		{100, 4, x, false},
		{101, 5, rate.Level{At: 101}, true},
		{101, 6, rate.Level{Has: 5, At: 101}, false},
		{118, 10, rate.Level{At: 118, Rest: 2}, true},
		{118, 11, rate.Level{Has: 10, At: 118, Rest: 2}, false},
		{118, most, rate.Level{Has: 10, At: 118, Rest: 2}, false},
	} {
		if y, is, e := rate.Take(b, x, c.at, c.n); y != c.want || is != c.is || e != api.OK {
			t.Error(i, y, is, e)
		}
	}
	large := rate.Bucket{Size: most, Add: most, Every: 1}
	if y, is, e := rate.Take(large, rate.Level{}, api.MaxMoment, most); y != (rate.Level{At: api.MaxMoment}) || !is || e != api.OK {
		t.Error(y, is, e)
	}
}

// P7.1
func TestWait(t *testing.T) {
	b, x := small()
	slow := rate.Bucket{Size: most, Add: 1, Every: api.DayLong}
	const end = api.MaxMoment
	for i, c := range []struct {
		bucket rate.Bucket
		level  rate.Level
		n      int
		want   int
		e      api.Errno
	}{
		{b, x, 0, 0, api.OK},
		{b, x, 3, 0, api.OK},
		{b, x, 4, 1, api.OK},
		{b, x, 5, 1, api.OK},
		{b, x, 6, 6, api.OK},
		{b, x, 10, 16, api.OK},
		{b, x, 11, 0, api.ErrNone},
		{b, x, most, 0, api.ErrNone},
		{b, rate.Level{At: end}, 0, 0, api.OK},
		{b, rate.Level{Has: 10, At: end}, 10, 0, api.OK},
		{b, rate.Level{At: end}, 1, 0, api.ErrFull},
		{b, rate.Level{At: end - 5}, 2, 5, api.OK},
		{b, rate.Level{At: end - 4}, 2, 0, api.ErrFull},
		{b, rate.Level{At: end - 4, Rest: 1}, 2, 4, api.OK},
		{slow, rate.Level{}, 36_524, 36_524 * 86_400, api.OK},
		{slow, rate.Level{}, 36_525, 0, api.ErrFull},
		{slow, rate.Level{Rest: 1}, 36_525, end, api.OK},
		{slow, rate.Level{}, most, 0, api.ErrFull},
		{rate.Bucket{Size: most, Add: most, Every: api.DayLong}, rate.Level{}, most, api.DayLong, api.OK},
		{rate.Bucket{Size: most, Add: most - 1, Every: api.DayLong}, rate.Level{}, most, 2 * api.DayLong, api.OK},
	} {
		if n, e := rate.Wait(c.bucket, c.level, c.n); n != c.want || e != c.e {
			t.Error(i, n, e)
		}
	}
}

// P7.1: errors of buckets and levels come before all others.
func TestBucketErrors(t *testing.T) {
	b, x := small()
	expect := func(b rate.Bucket, x rate.Level, at, n int, want api.Errno) {
		t.Helper()
		if y, e := rate.Pour(b, x, at); y != (rate.Level{}) || e != want {
			t.Error("Pour", b, x, at, y, e, want)
		}
		if y, is, e := rate.Take(b, x, at, n); y != (rate.Level{}) || is || e != want {
			t.Error("Take", b, x, at, n, y, is, e, want)
		}
	}
	for _, bad := range badBuckets() {
		expect(bad, rate.Level{Has: -1}, -1, -1, api.ErrRange)
		if n, e := rate.Wait(bad, rate.Level{Has: -1}, most); n != 0 || e != api.ErrRange {
			t.Error(bad, n, e)
		}
	}
	for _, bad := range badLevels() {
		expect(b, bad, -1, -1, api.ErrForm)
		expect(b, bad, 5, 1, api.ErrForm)
		for _, n := range []int{-1, 0, 11} {
			if n, e := rate.Wait(b, bad, n); n != 0 || e != api.ErrForm {
				t.Error(bad, n, e)
			}
		}
	}
	for _, at := range outside(0, api.MaxMoment) {
		expect(b, x, at, -1, api.ErrRange)
	}
	expect(b, x, 99, -1, api.ErrOrder)
	expect(b, x, 0, 0, api.ErrOrder)
	for _, n := range outside(0, most) {
		if y, is, e := rate.Take(b, x, 100, n); y != (rate.Level{}) || is || e != api.ErrRange {
			t.Error(n, y, is, e)
		}
		if m, e := rate.Wait(b, x, n); m != 0 || e != api.ErrRange {
			t.Error(n, m, e)
		}
	}
	if n, e := rate.Wait(b, rate.Level{At: api.MaxMoment}, math.MaxInt); n != 0 || e != api.ErrRange {
		t.Error(n, e)
	}
	if n, e := rate.Wait(b, rate.Level{At: api.MaxMoment}, 11); n != 0 || e != api.ErrNone {
		t.Error(n, e)
	}
}
