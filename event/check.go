package event

import (
	"cmp"
	"strings"

	"inquest/api"
	"inquest/stack"
)

const (
	mostWeight = 1_000_000
	idLong     = 16 // digits of an Id, and of a Sum
)

// Check returns the first error of an event.
func Check(e api.Event) api.Errno {
	return cmp.Or(checkHead(e), stack.Check(e.Faults), checkTags(e.Tags), checkCrumbs(e.Crumbs), checkTail(e))
}

// checkHead asks for what comes before the faults.
func checkHead(e api.Event) api.Errno {
	switch {
	case !isDigest(e.Id):
		return api.ErrForm
	case !isMoment(e.At), e.Level < 1, e.Level > len(Levels()):
		return api.ErrRange
	}
	return api.OK
}

func checkTags(l []api.Tag) api.Errno {
	if len(l) > api.MaxTags {
		return api.ErrLarge
	}
	for i, tag := range l {
		switch {
		case !isName(tag.Name):
			return api.ErrName
		case i > 0 && tag.Name <= l[i-1].Name:
			return api.ErrOrder
		}
		if e := checkValue(tag.Value); e != api.OK {
			return e
		}
	}
	return api.OK
}

// checkValue asks for the value of a tag, or a user.
func checkValue(s string) api.Errno {
	switch {
	case len(s) > api.MaxWord:
		return api.ErrLarge
	case !each(s, func(b byte) bool { return b >= 32 && b <= 126 }):
		return api.ErrByte
	}
	return api.OK
}

func checkCrumbs(l []api.Crumb) api.Errno {
	if len(l) > api.MaxCrumbs {
		return api.ErrLarge
	}
	for i, crumb := range l {
		switch {
		case !isMoment(crumb.At):
			return api.ErrRange
		case i > 0 && crumb.At < l[i-1].At:
			return api.ErrOrder
		case !isName(crumb.Kind):
			return api.ErrName
		case len(crumb.Text) > api.MaxSay:
			return api.ErrLarge
		case !each(crumb.Text, func(b byte) bool { return b >= 32 && b != 127 }):
			return api.ErrByte
		}
	}
	return api.OK
}

// checkTail asks for what comes after the crumbs.
func checkTail(e api.Event) api.Errno {
	if e.Release != "" && !isName(e.Release) {
		return api.ErrName
	}
	if x := checkValue(e.User); x != api.OK {
		return x
	}
	if e.Weight < 1 || e.Weight > mostWeight {
		return api.ErrRange
	}
	return api.OK
}

func isMoment(n int) bool { return n >= 0 && n <= api.MaxMoment }

func isDigest(s string) bool { return len(s) == idLong && each(s, isHex) }

func isName(s string) bool {
	return s != "" && len(s) <= api.MaxName && isSmall(s[0]) && each(s, inName)
}

func isDigit(b byte) bool { return b >= '0' && b <= '9' }

func isHex(b byte) bool { return isDigit(b) || b >= 'a' && b <= 'f' }

func isSmall(b byte) bool { return b >= 'a' && b <= 'z' }

func inName(b byte) bool { return isSmall(b) || isDigit(b) || strings.IndexByte("-._", b) >= 0 }

// each tells whether all bytes are as told.
func each(s string, is func(b byte) bool) bool {
	for i := range len(s) {
		if !is(s[i]) {
			return false
		}
	}
	return true
}
