package release

import (
	"maps"
	"slices"

	"inquest/api"
)

const whole = 10_000 // the share of all

// CheckSession returns the first error of a session.
func CheckSession(s Session) api.Errno {
	switch {
	case !isMoment(s.At), s.Long < 0, s.Long > api.DayLong:
		return api.ErrRange
	case !isRelease(s.Release):
		return api.ErrSyntax
	case s.Out < Fine, s.Out > Lost:
		return api.ErrKind
	}
	return checkWord(s.User, ' ')
}

// Healthy returns what sessions with At from a moment to another one tell of each release.
func Healthy(l []Session, from, to int) ([]Health, api.Errno) {
	if len(l) > MaxSessions {
		return nil, api.ErrLarge
	}
	for _, s := range l {
		if e := CheckSession(s); e != api.OK {
			return nil, e
		}
	}
	if to < from {
		return nil, api.ErrOrder
	}
	asked := 0
	of := map[string][]Session{}
	for _, s := range l {
		if s.At >= from && s.At <= to {
			asked++
			of[s.Release] = append(of[s.Release], s)
		}
	}
	releases, _ := Sorted(slices.Collect(maps.Keys(of))) // they were checked, and are no more than may be sorted
	var all []Health
	for _, r := range releases {
		h := healthOf(of[r])
		h.Release, h.Share = r, share(h.All, asked)
		all = append(all, h)
	}
	return all, api.OK
}

// healthOf returns what the sessions of a release tell of it alone.
func healthOf(l []Session) Health {
	h := Health{All: len(l)}
	crashed := map[string]bool{} // of each user: one of the sessions did
	for _, s := range l {
		crashed[s.User] = crashed[s.User] || s.Out == Crashed
		switch s.Out {
		case Erred:
			h.Erred++
		case Crashed:
			h.Crashed++
		case Lost:
			h.Lost++
		}
	}
	h.People = len(crashed)
	unlucky := 0
	for _, did := range crashed {
		if did {
			unlucky++
		}
	}
	h.Free, h.FreePeople = share(h.All-h.Crashed, h.All), share(h.People-unlucky, h.People)
	return h
}

func share(part, of int) int { return whole * part / of }
