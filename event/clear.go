package event

import (
	"cmp"
	"strings"

	"inquest/api"
)

// place is a string of an event in which rules look.
type place struct {
	where int
	name  string // of the tag, or the Kind of the crumb
	text  *string
	left  *rope // by the rules so far
}

// Clear returns an event without what rules find, and how often they do. If that is more often than an int can tell, Times is the greatest int.
func Clear(e api.Event, l []Rule) (api.Event, []Hit, api.Errno) {
	if x := cmp.Or(Check(e), CheckRules(l)); x != api.OK {
		return api.Event{}, nil, x
	}
	cleared := copyOf(e)
	places := placesOf(&cleared)
	var hits []Hit
	cleaners := map[Rule]*cleaner{}
	for i, r := range l {
		if n := clean(places, r, cleanerOf(r, cleaners)); n > 0 {
			hits = append(hits, Hit{i, n})
		}
	}
	for _, p := range places {
		*p.text = p.result()
	}
	if x := Check(cleared); x != api.OK {
		return api.Event{}, nil, x
	}
	return cleared, hits, api.OK
}

// placesOf returns all strings in which rules look.
func placesOf(e *api.Event) []place {
	var l []place
	add := func(where int, name string, text *string) {
		l = append(l, place{where, name, text, ropeOf(*text)})
	}
	for i := range e.Faults {
		add(Texts, "", &e.Faults[i].Text)
		frames := e.Faults[i].Frames
		for j := range frames {
			add(Files, "", &frames[j].File)
		}
	}
	for i := range e.Tags {
		add(Tags, e.Tags[i].Name, &e.Tags[i].Value)
	}
	for i := range e.Crumbs {
		add(Crumbs, e.Crumbs[i].Kind, &e.Crumbs[i].Text)
	}
	add(User, "", &e.User)
	return l
}

// cleanerOf returns what is at work for a rule. Rules that differ in where they look alone share it.
func cleanerOf(r Rule, cleaners map[Rule]*cleaner) *cleaner {
	r.Where, r.Name = 0, ""
	c, known := cleaners[r]
	if !known {
		c = newCleaner(r)
		cleaners[r] = c
	}
	return c
}

// clean clears the places where a rule looks, and counts what it finds.
func clean(l []place, r Rule, c *cleaner) int {
	times := 0
	for i, p := range l {
		if p.where == r.Where && Matches(r.Name, p.name) {
			left, n := c.clear(p.left)
			l[i].left = left
			times = plus(times, n)
		}
	}
	return times
}

// result returns what all rules have left. Of what is too large for every place Check only asks how long it is.
func (p place) result() string {
	if !p.left.fits() {
		return strings.Repeat("*", api.MaxSay+1)
	}
	return p.left.short()
}
