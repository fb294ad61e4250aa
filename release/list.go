package release

import (
	"slices"

	"inquest/api"
)

// listed is a release of a list.
type listed struct {
	text    string
	version Version
}

func parseAll(l []string) ([]listed, api.Errno) {
	if len(l) > api.MaxEvents {
		return nil, api.ErrLarge
	}
	var all []listed
	for _, s := range l {
		v, e := Parse(s)
		if e != api.OK {
			return nil, e
		}
		all = append(all, listed{s, v})
	}
	return all, api.OK
}

// pick returns the last one in an order, of those that are as told; false: there is none.
func pick(l []listed, is func(v Version) bool, order func(a, b Version) int) (listed, bool) {
	var last listed
	found := false
	for _, r := range l {
		if is(r.version) && (!found || order(r.version, last.version) > 0) {
			last, found = r, true
		}
	}
	return last, found
}

// Sorted returns releases in order, each once.
func Sorted(l []string) ([]string, api.Errno) {
	all, e := parseAll(l)
	if e != api.OK {
		return nil, e
	}
	slices.SortFunc(all, func(a, b listed) int { return Compare(a.version, b.version) })
	var sorted []string
	for _, r := range all {
		sorted = append(sorted, r.text)
	}
	return slices.Compact(sorted), api.OK
}

// Latest returns the greatest release of a project; pre: also one with a Pre.
func Latest(l []string, project string, pre bool) (string, api.Errno) {
	all, e := parseAll(l)
	switch {
	case e != api.OK:
		return "", e
	case !isProject(project):
		return "", api.ErrName
	}
	asked := func(v Version) bool { return v.Project == project && (pre || len(v.Pre) == 0) }
	last, found := pick(all, asked, Compare)
	if !found {
		return "", api.ErrNone
	}
	return last.text, api.OK
}

// After returns the release that follows upon s: the least one that is greater, without a Pre.
func After(l []string, s string) (string, api.Errno) {
	all, e := parseAll(l)
	if e != api.OK {
		return "", e
	}
	from, e := Parse(s)
	if e != api.OK {
		return "", e
	}
	asked := func(v Version) bool { return v.Project == from.Project && len(v.Pre) == 0 && Compare(v, from) > 0 }
	next, found := pick(all, asked, func(a, b Version) int { return Compare(b, a) })
	if !found {
		return "", api.ErrNone
	}
	return next.text, api.OK
}
