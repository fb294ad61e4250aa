package rate_test

import (
	"cmp"
	"fmt"
	"math/rand"
	"slices"
	"strconv"
	"testing"

	"inquest/api"
	"inquest/rate"
)

// asked is a question to a gate, and what is expected of it.
type asked struct {
	id, key string
	at      int
	why     int
	name    string
	many    int
}

// ask asks a gate, one question after the other.
func ask(t *testing.T, g *rate.Gate, l []asked) {
	t.Helper()
	for i, c := range l {
		if why, name, many, e := g.Ask(c.id, c.key, c.at); why != c.why || name != c.name || many != c.many || e != api.OK {
			t.Errorf("%d: %d %q %d %v", i, why, name, many, e)
		}
	}
}

// levels asks for the levels of a gate.
func levels(t *testing.T, g *rate.Gate, at int, want ...rate.Level) {
	t.Helper()
	if l, e := g.Levels(at); !slices.Equal(l, want) || e != api.OK {
		t.Error(at, l, e, "not", want)
	}
}

// tallies asks for those of a gate.
func tallies(t *testing.T, g *rate.Gate, want ...rate.Tally) {
	t.Helper()
	if l := g.Tallies(); !slices.Equal(l, want) {
		t.Error(l, "not", want)
	}
}

// P7.5
func TestGate(t *testing.T) {
	l := []rate.Quota{quota("web", "k", 2, 1, 10), quota("all", "", 3, 1, 100)}
	g := gate(t, l, nil, 100)
	levels(t, g, 100, rate.Level{Has: 2, At: 100}, rate.Level{Has: 3, At: 100})
	tallies(t, g)
	ask(t, g, []asked{
		{"a", "k", 100, rate.Kept, "", rate.Whole},
		{"a", "k", 101, rate.Kept, "", rate.Whole},
		{"a", "k", 102, rate.Limited, "web", 0},
		{"a", "m", 103, rate.Kept, "", rate.Whole},
	})
	levels(t, g, 103, rate.Level{At: 103, Rest: 3}, rate.Level{At: 103, Rest: 3})
	ask(t, g, []asked{
		{"a", "k", 103, rate.Limited, "web", 0}, // both have none: the first one is told
		{"a", "m", 103, rate.Limited, "all", 0},
		{"a", "k", 110, rate.Limited, "all", 0}, // and the other one gives nothing
	})
	levels(t, g, 110, rate.Level{Has: 1, At: 110}, rate.Level{At: 110, Rest: 10})
	ask(t, g, []asked{{"a", "k", 200, rate.Kept, "", rate.Whole}})
	levels(t, g, 205, rate.Level{Has: 1, At: 205, Rest: 5}, rate.Level{At: 205, Rest: 5})
	levels(t, g, api.MaxMoment, rate.Level{Has: 2, At: api.MaxMoment, Rest: 9}, rate.Level{Has: 3, At: api.MaxMoment, Rest: 99})
	// Levels has left the gate at 200.
	ask(t, g, []asked{{"a", "", 200, rate.Limited, "all", 0}})
	tallies(t, g,
		rate.Tally{Key: "", Why: rate.Limited, Name: "all", Many: 1},
		rate.Tally{Key: "k", Why: rate.Kept, Many: 3},
		rate.Tally{Key: "k", Why: rate.Limited, Name: "all", Many: 1},
		rate.Tally{Key: "k", Why: rate.Limited, Name: "web", Many: 2},
		rate.Tally{Key: "m", Why: rate.Kept, Many: 1},
		rate.Tally{Key: "m", Why: rate.Limited, Name: "all", Many: 1},
	)
}

// P7.5: of quotas for other keys nothing is taken, and they limit nothing.
func TestGateKeys(t *testing.T) {
	g := gate(t, []rate.Quota{quota("b", "b", 1, 1, 9), quota("a", "a", 1, 1, 9), quota("aa", "aa", 1, 1, 9), quota("a2", "a", 2, 1, 9)}, nil, 0)
	ask(t, g, []asked{{"x", "a", 0, rate.Kept, "", rate.Whole}})
	levels(t, g, 0, rate.Level{Has: 1}, rate.Level{}, rate.Level{Has: 1}, rate.Level{Has: 1})
	ask(t, g, []asked{
		{"x", "a", 0, rate.Limited, "a", 0},
		{"x", "", 0, rate.Kept, "", rate.Whole},
		{"x", "A", 0, rate.Kept, "", rate.Whole},
		{"x", "aa", 8, rate.Kept, "", rate.Whole},
		{"x", "a", 9, rate.Kept, "", rate.Whole},
		{"x", "a", 17, rate.Limited, "a", 0},
	})
	levels(t, g, 17, rate.Level{Has: 1, At: 17, Rest: 8}, rate.Level{At: 17, Rest: 8}, rate.Level{Has: 1, At: 17, Rest: 8}, rate.Level{Has: 1, At: 17, Rest: 8})
	free := gate(t, nil, nil, api.MaxMoment)
	ask(t, free, []asked{{"", "", api.MaxMoment, rate.Kept, "", rate.Whole}, {word(200), word(200), api.MaxMoment, rate.Kept, "", rate.Whole}})
	levels(t, free, api.MaxMoment)
	tallies(t, free, rate.Tally{Many: 1}, rate.Tally{Key: word(200), Many: 1})
}

// P7.5: rates.
func TestGateRates(t *testing.T) {
	const id = "03695a04" // kept from the rate 625,001 on
	g := gate(t, []rate.Quota{quota("all", "", 3, 1, 9)}, []rate.Rate{{"none", 0}, {"low", 625_000}, {"high", 625_001}, {"", 999_999}}, 0)
	ask(t, g, []asked{{id, "none", 0, rate.Sampled, "", 0}, {id, "low", 1, rate.Sampled, "", 0}})
	// What is not kept by a rate takes nothing.
	levels(t, g, 1, rate.Level{Has: 3, At: 1, Rest: 1})
	ask(t, g, []asked{
		{id, "high", 1, rate.Kept, "", 1_599_997},
		{id, "", 1, rate.Kept, "", 1_000_001},
		{id, "other", 1, rate.Kept, "", rate.Whole}, // the rate without a key is not one for all
		{id, "high", 2, rate.Limited, "all", 0},
		{id, "low", 2, rate.Sampled, "", 0}, // a rate comes before quotas
	})
	tallies(t, g,
		rate.Tally{Key: "", Why: rate.Kept, Many: 1},
		rate.Tally{Key: "high", Why: rate.Kept, Many: 1},
		rate.Tally{Key: "high", Why: rate.Limited, Name: "all", Many: 1},
		rate.Tally{Key: "low", Why: rate.Sampled, Many: 2},
		rate.Tally{Key: "none", Why: rate.Sampled, Many: 1},
		rate.Tally{Key: "other", Why: rate.Kept, Many: 1},
	)
	if e := g.Rates([]rate.Rate{{"high", 0}, {"low", rate.Whole}}); e != api.OK {
		t.Error(e)
	}
	ask(t, g, []asked{
		{id, "high", 99, rate.Sampled, "", 0},
		{id, "low", 99, rate.Kept, "", rate.Whole},
		{id, "none", 99, rate.Kept, "", rate.Whole}, // its rate is gone
	})
	if e := g.Rates(nil); e != api.OK {
		t.Error(e)
	}
	ask(t, g, []asked{{id, "high", 99, rate.Kept, "", rate.Whole}, {id, "high", 99, rate.Limited, "all", 0}})
	levels(t, g, 99, rate.Level{At: 99})
}

// plainGate is a plain reading of P7.5.
type plainGate struct {
	quotas []rate.Quota
	levels []rate.Level
	rates  []rate.Rate
	lines  map[string]int
}

func (g *plainGate) ask(id, key string, at int) (why int, name string, many int) {
	for i, q := range g.quotas {
		g.levels[i] = plainLevel(q.Bucket, g.levels[i], at)
	}
	many = rate.Whole
	for _, r := range g.rates {
		if r.Key != key {
			continue
		}
		if r.Keep < leastRate(id) {
			return rate.Sampled, "", 0
		}
		many = rate.Whole * rate.Whole / r.Keep
	}
	for i, q := range g.quotas {
		if (q.Key == "" || q.Key == key) && g.levels[i].Has == 0 {
			return rate.Limited, q.Name, 0
		}
	}
	for i, q := range g.quotas {
		if q.Key == "" || q.Key == key {
			g.levels[i].Has--
		}
	}
	return rate.Kept, "", many
}

// compare holds the levels and tallies of a gate against plain ones.
func (g *plainGate) compare(t *testing.T, other *rate.Gate, at int) {
	t.Helper()
	var want []rate.Level
	for i, q := range g.quotas {
		want = append(want, plainLevel(q.Bucket, g.levels[i], at))
	}
	levels(t, other, at, want...)
	l := other.Tallies()
	for _, x := range l {
		if g.lines[fmt.Sprintln(x.Key, x.Why, x.Name)] != x.Many {
			t.Error(x, g.lines)
		}
	}
	if len(l) != len(g.lines) {
		t.Error(l, g.lines)
	}
	order := func(a, b rate.Tally) int {
		return cmp.Or(cmp.Compare(a.Key, b.Key), a.Why-b.Why, cmp.Compare(a.Name, b.Name))
	}
	if !slices.IsSortedFunc(l, order) {
		t.Error(l)
	}
}

// randomRates are some of few keys.
func randomRates(r *rand.Rand) (l []rate.Rate) {
	for _, key := range []string{"", "a", "b", "c"} {
		if r.Intn(3) == 0 {
			l = append(l, rate.Rate{Key: key, Keep: min(rate.Whole, r.Intn(15)*100_000)})
		}
	}
	return l
}

// P7.5: plain readings.
func TestGatesPlainly(t *testing.T) {
	r := rand.New(rand.NewSource(6))
	told := [3]int{}
	for range 1000 {
		var l []rate.Quota
		for i := range r.Intn(5) {
			l = append(l, quota(name(9-i), oneOf(r, "", "a", "b"), 1+r.Intn(4), 1+r.Intn(3), 1+r.Intn(20)))
		}
		at := r.Intn(100)
		plain := &plainGate{quotas: l, rates: randomRates(r), lines: map[string]int{}}
		for _, q := range l {
			plain.levels = append(plain.levels, rate.Level{Has: q.Bucket.Size, At: at})
		}
		g := gate(t, l, plain.rates, at)
		for range 50 {
			if r.Intn(20) == 0 {
				plain.rates = randomRates(r)
				if e := g.Rates(plain.rates); e != api.OK {
					t.Fatal(e)
				}
			}
			id, key := strconv.Itoa(r.Int()), oneOf(r, "", "a", "b", "c", "d")
			at += max(0, r.Intn(8)-3)
			why, name, many := plain.ask(id, key, at)
			plain.lines[fmt.Sprintln(key, why, name)]++
			told[why]++
			ask(t, g, []asked{{id, key, at, why, name, many}})
			if r.Intn(10) == 0 {
				plain.compare(t, g, at+r.Intn(30))
			}
		}
		plain.compare(t, g, at)
		if t.Failed() {
			t.Fatal(l)
		}
	}
	if slices.Min(told[:]) < 4000 {
		t.Error(told)
	}
}

// P7.5: errors of rates, in order, which change nothing.
func TestGateRatesErrors(t *testing.T) {
	first := rate.Rate{Key: "a", Keep: 0}
	type bad struct {
		l    []rate.Rate
		want api.Errno
	}
	full := rates(make([]int, rate.MaxKeys)...)
	cases := []bad{
		{append(full, rate.Rate{Key: "\n", Keep: -1}), api.ErrLarge},
		{[]rate.Rate{first, {Key: "a", Keep: -1}}, api.ErrTwice},
		{[]rate.Rate{first, {Key: "b"}, first}, api.ErrTwice},
		{[]rate.Rate{{Keep: 1}, {Keep: 2}}, api.ErrTwice},
		{[]rate.Rate{{Key: "a", Keep: -1}, {Key: "\n"}, {Key: "a"}}, api.ErrRange},
	}
	for _, c := range badKeys() {
		cases = append(cases, bad{[]rate.Rate{first, {Key: c.key, Keep: -1}, first}, c.want})
	}
	for _, n := range outside(0, rate.Whole) {
		cases = append(cases, bad{[]rate.Rate{first, {Key: "b", Keep: n}, first}, api.ErrRange})
	}
	g := gate(t, nil, []rate.Rate{{Key: "z", Keep: 0}}, 0)
	for i, c := range cases {
		if e := g.Rates(c.l); e != c.want {
			t.Errorf("%d: %v, not %v", i, e, c.want)
		}
		if g, e := rate.NewGate([]rate.Quota{quota("a", "", 1, 1, 1)}, c.l, -1); g != nil || e != c.want {
			t.Errorf("NewGate, %d: %v, not %v", i, e, c.want)
		}
	}
	ask(t, g, []asked{{"x", "z", 0, rate.Sampled, "", 0}, {"x", "a", 0, rate.Kept, "", rate.Whole}})
	var good []rate.Rate
	for _, key := range goodKeys() {
		good = append(good, rate.Rate{Key: key, Keep: rate.Whole})
	}
	for _, l := range [][]rate.Rate{nil, full, good} {
		if e := g.Rates(l); e != api.OK {
			t.Error(e)
		}
	}
	for _, at := range outside(0, api.MaxMoment) {
		if g, e := rate.NewGate(nil, nil, at); g != nil || e != api.ErrRange {
			t.Error(at, e)
		}
	}
}

// P7.5: errors of Ask and Levels, in order, with which nothing happens.
func TestAskErrors(t *testing.T) {
	g := gate(t, []rate.Quota{quota("all", "", 2, 1, 9)}, []rate.Rate{{Key: "z", Keep: 0}}, 100)
	type bad struct {
		id, key string
		at      int
		want    api.Errno
	}
	cases := []bad{
		{word(201), "\n", -1, api.ErrLarge}, {word(201), "k", 500, api.ErrLarge}, {word(201), "z", 500, api.ErrLarge}, {word(1_000_000), "", 0, api.ErrLarge},
		{"x", "k", 99, api.ErrOrder}, {"x", "z", 0, api.ErrOrder},
	}
	for _, c := range badKeys() {
		cases = append(cases, bad{"x", c.key, -1, c.want}, bad{"x", c.key, 500, c.want})
	}
	for _, at := range outside(0, api.MaxMoment) {
		cases = append(cases, bad{"x", "k", at, api.ErrRange}, bad{"x", "z", at, api.ErrRange})
		if l, e := g.Levels(at); len(l) > 0 || e != api.ErrRange {
			t.Error(at, l, e)
		}
	}
	for _, at := range []int{0, 99} {
		if l, e := g.Levels(at); len(l) > 0 || e != api.ErrOrder {
			t.Error(at, l, e)
		}
	}
	for i, c := range cases {
		if why, name, many, e := g.Ask(c.id, c.key, c.at); why != 0 || name != "" || many != 0 || e != c.want {
			t.Errorf("%d: %d %q %d %v, not %v", i, why, name, many, e, c.want)
		}
	}
	levels(t, g, 100, rate.Level{Has: 2, At: 100})
	tallies(t, g)
	// The moment of what was not kept counts, too.
	ask(t, g, []asked{{"x", "k", 100, rate.Kept, "", rate.Whole}, {"x", "z", 101, rate.Sampled, "", 0}})
	if _, _, _, e := g.Ask("x", "k", 100); e != api.ErrOrder {
		t.Error(e)
	}
	ask(t, g, []asked{{"x", "k", 102, rate.Kept, "", rate.Whole}, {"x", "k", 103, rate.Limited, "all", 0}})
	if l, e := g.Levels(102); len(l) > 0 || e != api.ErrOrder {
		t.Error(l, e)
	}
	// Other rates have no moment.
	if e := g.Rates(nil); e != api.OK {
		t.Error(e)
	}
	if _, _, _, e := g.Ask("x", "k", 102); e != api.ErrOrder {
		t.Error(e)
	}
	levels(t, g, 103, rate.Level{At: 103, Rest: 3})
	tallies(t, g, rate.Tally{Key: "k", Many: 2}, rate.Tally{Key: "k", Why: rate.Limited, Name: "all", Many: 1}, rate.Tally{Key: "z", Why: rate.Sampled, Many: 1})
}
