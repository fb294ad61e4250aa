package release

import (
	"cmp"
	"slices"

	"inquest/api"
	"inquest/event"
)

// Seen returns the state of a group after an event of it, and whether the group is opened again.
func Seen(s State, e api.Event, releases []string, people int) (State, bool, api.Errno) {
	if x := cmp.Or(CheckState(s), event.Check(e)); x != api.OK {
		return State{}, false, x
	}
	known, x := parseAll(releases)
	switch {
	case x != api.OK:
		return State{}, false, x
	case !isCount(people):
		return State{}, false, api.ErrRange
	}
	if s.More != none {
		s.More = max(0, s.More-e.Weight)
	}
	if !opens(s, e, known, people) {
		return s, false, api.OK
	}
	return plain(Open, e.At, min(s.Again+1, MaxUsers)), true, api.OK
}

// opens tells whether an event opens a group again; More of its state is less by the event already.
func opens(s State, e api.Event, known []listed, people int) bool {
	switch {
	case s.Kind == Open:
		return false
	case s.Kind == Ignored:
		return s.Till != none && e.At > s.Till || s.More == 0 || s.People != none && people >= s.People
	case s.In == "":
		return e.At > s.At
	}
	return comesBack(s, e, known)
}

// comesBack tells whether an event speaks against a group being resolved in a release.
func comesBack(s State, e api.Event, known []listed) bool {
	in, _ := parse(s.In)
	has := func(v Version) bool { // what was to resolve the group
		order := Compare(v, in)
		return v.Project == in.Project && (order > 0 || order == 0 && !s.Next)
	}
	if v, ok := parse(e.Release); ok && v.Project == in.Project {
		return has(v)
	}
	// Where the event does not tell, it may be of a release that has it, once there is one.
	return e.At > s.At && slices.ContainsFunc(known, func(r listed) bool { return has(r.version) })
}
