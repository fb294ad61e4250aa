package event

import (
	"cmp"
	"strings"

	"inquest/api"
)

// mostBetween is how long a string may get between two rules. Digests of the digits of digests grow without an end, and no later rule is likely to make so long a string right again.
const mostBetween = 1 << 24

// place is a string of an event in which rules look.
type place struct {
	where int
	name  string // of the tag, or the Kind of the crumb
	text  *string
}

// cleaner is a rule at work.
type cleaner struct {
	rule Rule
	find func(s string) (from, to int) // the first part that is looked for; it is empty if there is none
	put  func(part string) string      // what comes in its place
}

// Clear returns an event without what rules find, and how often they do.
func Clear(e api.Event, l []Rule) (api.Event, []Hit, api.Errno) {
	if x := cmp.Or(Check(e), CheckRules(l)); x != api.OK {
		return api.Event{}, nil, x
	}
	var cleaners []cleaner
	for _, r := range l {
		cleaners = append(cleaners, cleaner{r, finderOf(r), putterOf(r)})
	}
	cleared := copyOf(e)
	times := make([]int, len(l))
	// No string depends on another one, so each of them goes through all rules at once. Places come in the order of Check: it finds no other error in those behind one that is too large.
	for _, p := range placesOf(&cleared) {
		if !clean(p, cleaners, times) {
			break
		}
	}
	if x := Check(cleared); x != api.OK {
		return api.Event{}, nil, x
	}
	return cleared, hitsOf(times), api.OK
}

// placesOf returns all strings in which rules look, in the order of Check.
func placesOf(e *api.Event) []place {
	var l []place
	for i := range e.Faults {
		l = append(l, place{where: Texts, text: &e.Faults[i].Text})
		frames := e.Faults[i].Frames
		for j := range frames {
			l = append(l, place{where: Files, text: &frames[j].File})
		}
	}
	for i := range e.Tags {
		l = append(l, place{Tags, e.Tags[i].Name, &e.Tags[i].Value})
	}
	for i := range e.Crumbs {
		l = append(l, place{Crumbs, e.Crumbs[i].Kind, &e.Crumbs[i].Text})
	}
	return append(l, place{where: User, text: &e.User})
}

func hitsOf(times []int) []Hit {
	var hits []Hit
	for i, n := range times {
		if n > 0 {
			hits = append(hits, Hit{i, n})
		}
	}
	return hits
}

// clean clears a string, and counts what each rule finds; false: the string is too large for any place.
func clean(p place, l []cleaner, times []int) bool {
	for i, c := range l {
		if c.rule.Where != p.where || !Matches(c.rule.Name, p.name) {
			continue
		}
		n := 0
		*p.text, n = c.clear(*p.text)
		times[i] += n
		if len(*p.text) > mostBetween {
			return false
		}
	}
	return len(*p.text) <= api.MaxSay
}

// clear puts something in the place of each part that is found, and counts them.
func (c cleaner) clear(s string) (string, int) {
	var b strings.Builder
	n := 0
	for from, to := c.find(s); to > from; from, to = c.find(s) {
		b.WriteString(s[:from])
		b.WriteString(c.put(s[from:to]))
		s = s[to:]
		n++
	}
	b.WriteString(s)
	return b.String(), n
}

func finderOf(r Rule) func(s string) (from, to int) {
	switch r.Find {
	case Digits:
		return rows(isDigit, r.Least)
	case Mails:
		return findMail
	case Hexes:
		return rows(isHex, r.Least)
	case Literal:
		return func(s string) (int, int) {
			i := strings.Index(s, r.Text)
			if i < 0 {
				return 0, 0
			}
			return i, i + len(r.Text)
		}
	}
	return func(s string) (int, int) { return 0, len(s) }
}

// rows looks for rows of bytes of a kind that are as long as possible, if they have so many or more.
func rows(is func(b byte) bool, least int) func(s string) (from, to int) {
	return func(s string) (int, int) {
		from := 0
		for to := range len(s) + 1 {
			if to < len(s) && is(s[to]) {
				continue
			}
			if to-from >= least {
				return from, to
			}
			from = to + 1
		}
		return 0, 0
	}
}

func findMail(s string) (from, to int) {
	for at := range len(s) {
		if s[at] != '@' {
			continue
		}
		from, to := at, at+1
		for from > 0 && inMail(s[from-1]) {
			from--
		}
		for to < len(s) && inMail(s[to]) {
			to++
		}
		if from < at && to > at+1 {
			return from, to
		}
	}
	return 0, 0
}

func inMail(b byte) bool { return inName(b) || b >= 'A' && b <= 'Z' }

func putterOf(r Rule) func(part string) string {
	switch r.Do {
	case Mask:
		return func(part string) string { return strings.Repeat("*", len(part)) }
	case Digest:
		return Sum
	}
	return func(string) string { return "" }
}
