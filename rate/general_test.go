package rate_test

// The general rules (Z1 to Z12) where the tests of the promises do not ask for them: Z3 and Z4 are asked for with the errors of each function, Z9 with the greatest sums of Pour, Shares, Stands and Spike, Z11 with Tallies, Z12 with Shares and Stands.

import (
	"fmt"
	"math"
	"slices"
	"strings"
	"sync"
	"testing"

	"inquest/api"
	"inquest/rate"
)

// given is an argument of each kind.
type given struct {
	bucket rate.Bucket
	level  rate.Level
	quotas []rate.Quota
	shares []rate.Share
	rates  []rate.Rate
	counts []int
	keeps  []int
	s      string
	n      int
}

// good are arguments without errors.
func good() given {
	b, x := small()
	return given{
		bucket: b,
		level:  x,
		quotas: []rate.Quota{quota("b", "k", 2, 1, 10), quota("a", "", 3, 1, 100)},
		shares: []rate.Share{{"b", 100}, {"a", 10}, {"c", 1}},
		rates:  []rate.Rate{{"k", 900_000}, {"a", 0}},
		counts: []int{30, 10, 20, 31},
		keeps:  []int{500_000, 300_000},
		s:      "k",
		n:      105,
	}
}

// gated is all that a gate tells, to which events come with a key and ids.
func gated(g *rate.Gate, key string, ids []string, n int, rates []rate.Rate) string {
	var b strings.Builder
	for i, id := range ids {
		fmt.Fprintln(&b, i)
		fmt.Fprint(&b, fmt.Sprint(g.Ask(id, key, n)), fmt.Sprint(g.Levels(n)), fmt.Sprint(g.Ask(key, "", n)), fmt.Sprint(g.Ask(id, "a", n)))
		if i == len(ids)/2 {
			fmt.Fprint(&b, g.Rates(rates))
		}
	}
	fmt.Fprint(&b, g.Tallies())
	return b.String()
}

// everything is what all functions return for these arguments.
func everything(g given) []string {
	var r []string
	add := func(results ...any) { r = append(r, fmt.Sprintf("%v", results)) }
	add(rate.CheckBucket(g.bucket), rate.CheckQuotas(g.quotas))
	x, e := rate.Full(g.bucket, g.n)
	add(x, e)
	x, e = rate.Pour(g.bucket, g.level, g.n)
	add(x, e)
	x, is, e := rate.Take(g.bucket, g.level, g.n, 3)
	add(x, is, e)
	x, is, e = rate.Take(g.bucket, g.level, 105, g.n)
	add(x, is, e)
	n, e := rate.Wait(g.bucket, g.level, g.n)
	add(n, e)
	n, e = rate.Wait(g.bucket, g.level, 10)
	add(n, e)
	is, e = rate.Sample(g.s, g.n)
	add(is, e)
	shares, e := rate.Shares(g.shares, g.n)
	add(shares, e)
	n, e = rate.Stands(g.keeps)
	add(n, e)
	is, n, e = rate.Spike(g.counts, g.n, g.n)
	add(is, n, e)
	gate, e := rate.NewGate(g.quotas, g.rates, g.n)
	add(gate != nil, e)
	if e == api.OK {
		add(gated(gate, g.s, []string{"x", g.s, "y", "z"}, g.n, g.rates))
		add(gated(gate, "k", []string{"x", g.s}, g.n, nil))
	}
	return r
}

// Z1 and Z9: every call returns, whatever the numbers and bytes are.
func TestHostile(t *testing.T) {
	for _, n := range []int{math.MinInt, math.MinInt + 1, -1, 0, 1, 3, most, api.MaxMoment, math.MaxInt - 1, math.MaxInt} {
		for _, s := range []string{"", "\x00", "\xff\xfe", "A", "\n", word(40), word(200), word(201), word(1_000_000)} {
			wild := given{
				bucket: rate.Bucket{Size: n, Add: n, Every: n},
				level:  rate.Level{Has: n, At: n, Rest: n},
				quotas: []rate.Quota{quota("a", "", 1, 1, 1), quota(s, s, n, n, n)},
				shares: []rate.Share{{"a", 1}, {s, n}},
				rates:  []rate.Rate{{"a", 1}, {s, n}},
				counts: []int{n, n, n},
				keeps:  []int{1, n, n},
				s:      s,
				n:      n,
			}
			everything(wild)
			// And one wild argument after the other, so that those before it are no errors.
			for _, change := range []func(g *given){
				func(g *given) { g.bucket = wild.bucket },
				func(g *given) { g.bucket.Size = n },
				func(g *given) { g.bucket.Add = n },
				func(g *given) { g.bucket.Every = n },
				func(g *given) { g.level = wild.level },
				func(g *given) { g.level.Has = n },
				func(g *given) { g.level.At = n },
				func(g *given) { g.level.Rest = n },
				func(g *given) { g.quotas = wild.quotas },
				func(g *given) { g.shares = wild.shares },
				func(g *given) { g.rates = wild.rates },
				func(g *given) { g.counts = wild.counts },
				func(g *given) { g.keeps = wild.keeps },
				func(g *given) { g.s = s },
				func(g *given) { g.n = n },
			} {
				g := good()
				change(&g)
				everything(g)
			}
		}
	}
	large := good()
	large.quotas, large.shares, large.rates, large.counts, large.keeps = make([]rate.Quota, 1_000_000), make([]rate.Share, 1_000_000), make([]rate.Rate, 1_000_000), make([]int, 1_000_000), make([]int, 1_000_000)
	everything(large)
}

// spare returns a list with memory behind its length.
func spare[T any](l []T, behind T) []T {
	r := append(slices.Clone(l), behind, behind, behind)
	return r[:len(l)]
}

// spared has spare memory behind all lists.
func spared() given {
	g := good()
	g.quotas = spare(g.quotas, rate.Quota{Name: "behind"})
	g.shares = spare(g.shares, rate.Share{Key: "behind"})
	g.rates = spare(g.rates, rate.Rate{Key: "behind"})
	g.counts = spare(g.counts, -7)
	g.keeps = spare(g.keeps, -7)
	return g
}

// whole is all that is in the memory of arguments.
func whole(g given) string {
	return fmt.Sprint(g, g.quotas[:cap(g.quotas)], g.shares[:cap(g.shares)], g.rates[:cap(g.rates)], g.counts[:cap(g.counts)], g.keeps[:cap(g.keeps)])
}

// Z2: arguments are neither modified nor kept, and what is after a length stays as it is.
func TestArguments(t *testing.T) {
	g := spared()
	before := whole(g)
	first := everything(g)
	if after := whole(g); after != before {
		t.Fatalf("%s, not %s", after, before)
	}
	if again := everything(good()); !slices.Equal(first, again) {
		t.Errorf("%v, then %v", first, again)
	}
	ids := []string{"x", "y", "z", "u", "v", "w"}
	want := gated(gate(t, good().quotas, good().rates, 100), "k", ids, 105, good().rates)
	kept := gate(t, g.quotas, g.rates, 100)
	clear(g.quotas[:cap(g.quotas)])
	clear(g.rates[:cap(g.rates)])
	if got := gated(kept, "k", ids, 105, good().rates); got != want {
		t.Errorf("%s, not %s", got, want)
	}
	g = spared()
	changed := gate(t, nil, nil, 0)
	if e := changed.Rates(g.rates); e != api.OK {
		t.Error(e)
	}
	for i := range g.rates {
		g.rates[i] = rate.Rate{Key: name(i), Keep: 5}
	}
	ask(t, changed, []asked{{"x", "a", 0, rate.Sampled, "", 0}, {"x", name(1), 0, rate.Kept, "", rate.Whole}})
}

// Z2: results are new memory.
func TestResults(t *testing.T) {
	g := gate(t, good().quotas, good().rates, 100)
	gated(g, "k", []string{"x", "y", "z"}, 105, nil)
	tell := func() string { return fmt.Sprint(g.Levels(105)) + fmt.Sprint(g.Tallies()) }
	before := tell()
	l, _ := g.Levels(105)
	clear(l[:cap(l)])
	tallies := g.Tallies()
	clear(tallies[:cap(tallies)])
	if after := tell(); after != before {
		t.Errorf("%s, not %s", after, before)
	}
}

// Z5: empty and nil lists are the same.
func TestEmpty(t *testing.T) {
	none, empty := good(), good()
	none.quotas, none.shares, none.rates, none.counts, none.keeps = nil, nil, nil, nil, nil
	empty.quotas, empty.shares, empty.rates, empty.counts, empty.keeps = []rate.Quota{}, []rate.Share{}, []rate.Rate{}, []int{}, []int{}
	if got, want := everything(empty), everything(none); !slices.Equal(got, want) {
		t.Errorf("%v, not %v", got, want)
	}
}

// Z7: goroutines get the same results, however the maps lie.
func TestTogether(t *testing.T) {
	work := func() string {
		var l []rate.Quota
		for i := range rate.MaxQuotas {
			l = append(l, quota(name(i*7%rate.MaxQuotas), []string{"", name(i % 5)}[min(1, i%9)], 5+i, 1, 10))
		}
		g, e := rate.NewGate(l, rates(500_000, 300_000, 0, 900_000), 0)
		s := fmt.Sprint(e)
		for i := range 300 {
			s += fmt.Sprint(g.Ask(fmt.Sprint(i), name(i*3%8), i/2))
		}
		return s + fmt.Sprint(g.Levels(500)) + fmt.Sprint(g.Tallies())
	}
	want, wantAll := work(), everything(good())
	var group sync.WaitGroup
	for range 8 {
		group.Go(func() {
			for range 20 {
				if work() != want || !slices.Equal(everything(good()), wantAll) {
					t.Error("other results")
				}
			}
		})
	}
	group.Wait()
}
