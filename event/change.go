package event

import (
	"maps"
	"slices"
	"strings"

	"inquest/api"
	"inquest/stack"
)

const points = 3 // stand for what was cut off

// With returns an event with tags, in the place of those of the same names or besides.
func With(e api.Event, tags []api.Tag) (api.Event, api.Errno) {
	if x := Check(e); x != api.OK {
		return api.Event{}, x
	}
	values, x := valuesOf(tags)
	if x != api.OK {
		return api.Event{}, x
	}
	for _, tag := range e.Tags {
		if _, changes := values[tag.Name]; !changes {
			values[tag.Name] = tag.Value
		}
	}
	if len(values) > api.MaxTags {
		return api.Event{}, api.ErrLarge
	}
	changed := copyOf(e)
	changed.Tags = nil
	for _, name := range slices.Sorted(maps.Keys(values)) {
		changed.Tags = append(changed.Tags, api.Tag{Name: name, Value: values[name]})
	}
	return changed, api.OK
}

// valuesOf returns the values of tags by their names, or the first error.
func valuesOf(tags []api.Tag) (map[string]string, api.Errno) {
	values := map[string]string{}
	for _, tag := range tags {
		if !isName(tag.Name) {
			return nil, api.ErrName
		}
		if x := checkValue(tag.Value); x != api.OK {
			return nil, x
		}
		if _, twice := values[tag.Name]; twice {
			return nil, api.ErrTwice
		}
		values[tag.Name] = tag.Value
	}
	return values, api.OK
}

// Fit returns an event that is not greater than limits.
func Fit(e api.Event, l Limits) (api.Event, api.Errno) {
	if x := Check(e); x != api.OK {
		return api.Event{}, x
	}
	if !l.right() {
		return api.Event{}, api.ErrRange
	}
	fit := copyOf(e)
	for i := range fit.Faults {
		fault := &fit.Faults[i]
		fault.Text = cut(fault.Text, l.Text)
		// The frames of a checked event and checked limits have no error.
		fault.Frames, _, _ = stack.Cut(fault.Frames, l.Frames)
	}
	fit.Tags = fit.Tags[:min(len(fit.Tags), l.Tags)]
	fit.Crumbs = fit.Crumbs[max(0, len(fit.Crumbs)-l.Crumbs):]
	for i := range fit.Crumbs {
		fit.Crumbs[i].Text = cut(fit.Crumbs[i].Text, l.Text)
	}
	return fit, api.OK
}

// right tells whether limits are within those of all events.
func (l Limits) right() bool {
	return l.Frames >= 1 && l.Frames <= api.MaxFrames && l.Crumbs >= 0 && l.Crumbs <= api.MaxCrumbs &&
		l.Tags >= 0 && l.Tags <= api.MaxTags && l.Text >= 1 && l.Text <= api.MaxSay
}

// cut shortens a string to so many bytes.
func cut(s string, most int) string {
	if len(s) <= most {
		return s
	}
	n := min(points, most)
	return s[:most-n] + strings.Repeat(".", n)
}

// copyOf returns an event that shares no memory with this one.
func copyOf(e api.Event) api.Event {
	e.Faults = slices.Clone(e.Faults)
	for i := range e.Faults {
		e.Faults[i].Frames = slices.Clone(e.Faults[i].Frames)
	}
	e.Tags = slices.Clone(e.Tags)
	e.Crumbs = slices.Clone(e.Crumbs)
	return e
}
