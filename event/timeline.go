package event

import (
	"cmp"
	"slices"

	"inquest/api"
)

const eventKind = "event"

// Timeline returns the crumbs of all events, and a crumb for each of these events, by At.
func Timeline(l []api.Event) ([]api.Crumb, api.Errno) {
	for _, e := range l {
		if x := Check(e); x != api.OK {
			return nil, x
		}
	}
	if len(l) > api.MaxEvents {
		return nil, api.ErrLarge
	}
	var crumbs []api.Crumb
	for _, e := range l {
		crumbs = append(crumbs, e.Crumbs...)
		crumbs = append(crumbs, api.Crumb{At: e.At, Kind: eventKind, Text: e.Faults[0].Kind})
	}
	slices.SortStableFunc(crumbs, func(a, b api.Crumb) int { return cmp.Compare(a.At, b.At) })
	return crumbs, api.OK
}
