package rate

import (
	"cmp"
	"iter"
	"maps"
	"slices"

	"inquest/api"
)

// Gate lets through what its quotas and rates allow. Without quotas and rates, it lets all through.
type Gate struct {
	quotas  []Quota
	levels  []Level // of each quota
	rates   map[string]int
	at      int           // the last moment
	tallies map[Tally]int // how many of each one, which has no Many here
}

// NewGate returns a gate whose buckets are full at a moment.
func NewGate(l []Quota, rates []Rate, at int) (*Gate, api.Errno) {
	if e := cmp.Or(CheckQuotas(l), checkRates(rates)); e != api.OK {
		return nil, e
	}
	if !isMoment(at) {
		return nil, api.ErrRange
	}
	g := &Gate{quotas: slices.Clone(l), rates: ratesOf(rates), at: at}
	for _, q := range l {
		g.levels = append(g.levels, full(q.Bucket, at))
	}
	return g, api.OK
}

// Rates puts other rates in the place of those that the gate has.
func (g *Gate) Rates(rates []Rate) api.Errno {
	if e := checkRates(rates); e != api.OK {
		return e
	}
	g.rates = ratesOf(rates)
	return api.OK
}

func checkRates(l []Rate) api.Errno {
	return checkAmounts(len(l), Whole, func(i int) (string, int) { return l[i].Key, l[i].Keep })
}

func ratesOf(l []Rate) map[string]int {
	rates := map[string]int{}
	for _, r := range l {
		rates[r.Key] = r.Keep
	}
	return rates
}

// Ask tells what becomes of an event: why, the name of the quota that limits it, and for how many it stands, in millionths.
func (g *Gate) Ask(id, key string, at int) (int, string, int, api.Errno) {
	if e := g.checkAsk(id, key, at); e != api.OK {
		return 0, "", 0, e
	}
	g.at = at
	why, name, many := g.decide(id, key)
	g.tally(Tally{Key: key, Why: why, Name: name})
	return why, name, many, api.OK
}

func (g *Gate) checkAsk(id, key string, at int) api.Errno {
	if len(id) > api.MaxWord {
		return api.ErrLarge
	}
	return cmp.Or(checkKey(key), g.checkMoment(at))
}

// checkMoment asks for a moment that is not before the last one.
func (g *Gate) checkMoment(at int) api.Errno {
	switch {
	case !isMoment(at):
		return api.ErrRange
	case at < g.at:
		return api.ErrOrder
	}
	return api.OK
}

// decide takes from the quotas what an event needs, if it is kept.
func (g *Gate) decide(id, key string) (int, string, int) {
	rate, has := g.rates[key]
	if !has {
		rate = Whole // at which each event is kept, and stands for itself
	}
	if !sampled(id, rate) {
		return Sampled, "", 0
	}
	levels := slices.Clone(g.levels) // no quota gives anything, if a later one has not enough
	for i, q := range g.fitting(key) {
		x, is := take(q.Bucket, levels[i], g.at, 1)
		if !is {
			return Limited, q.Name, 0
		}
		levels[i] = x
	}
	g.levels = levels
	return Kept, "", stands(rate)
}

// fitting goes through the quotas that are for a key.
func (g *Gate) fitting(key string) iter.Seq2[int, Quota] {
	return func(yield func(i int, q Quota) bool) {
		for i, q := range g.quotas {
			if (q.Key == "" || q.Key == key) && !yield(i, q) {
				return
			}
		}
	}
}

func (g *Gate) tally(t Tally) {
	if g.tallies == nil {
		g.tallies = map[Tally]int{}
	}
	g.tallies[t]++
}

// Levels returns the levels of the quotas at a moment; the gate stays as it is.
func (g *Gate) Levels(at int) ([]Level, api.Errno) {
	if e := g.checkMoment(at); e != api.OK {
		return nil, e
	}
	var levels []Level
	for i, q := range g.quotas {
		levels = append(levels, pour(q.Bucket, g.levels[i], at))
	}
	return levels, api.OK
}

// Tallies returns what became of the events of each key.
func (g *Gate) Tallies() []Tally {
	l := slices.SortedFunc(maps.Keys(g.tallies), func(a, b Tally) int {
		return cmp.Or(cmp.Compare(a.Key, b.Key), cmp.Compare(a.Why, b.Why), cmp.Compare(a.Name, b.Name))
	})
	for i, t := range l {
		l[i].Many = g.tallies[t]
	}
	return l
}
