package release

import (
	"cmp"
	"slices"
	"strconv"
	"strings"

	"inquest/api"
)

const numberDigits = 6 // the most digits of a number of a version

// Parse returns the version that a release is.
func Parse(s string) (Version, api.Errno) {
	v, ok := parse(s)
	if !ok {
		return Version{}, api.ErrSyntax
	}
	return v, api.OK
}

// parse has no choice where to cut: there is no point in a project, and no - in a number or a part of Pre.
func parse(s string) (Version, bool) {
	head, rest, _ := strings.Cut(s, ".")
	minor, rest, _ := strings.Cut(rest, ".")
	patch, pre, early := strings.Cut(rest, "-")
	dash := strings.LastIndexByte(head, '-')
	if len(s) > api.MaxName || dash < 0 {
		return Version{}, false
	}
	ok := true
	number := func(s string) int {
		n, is := readNumber(s, numberDigits)
		ok = ok && is
		return n
	}
	v := Version{Project: head[:dash], Major: number(head[dash+1:]), Minor: number(minor), Patch: number(patch)}
	if early {
		v.Pre = strings.Split(pre, ".")
	}
	return v, ok && isProject(v.Project) && len(v.Pre) <= MaxPre && !slices.ContainsFunc(v.Pre, isNoPart)
}

func isRelease(s string) bool {
	_, ok := parse(s)
	return ok
}

func isProject(s string) bool { return isName(s) && !strings.Contains(s, ".") }

// isNoPart tells whether a string can be no part of Pre.
func isNoPart(s string) bool {
	if each(s, isDigit) {
		_, is := readNumber(s, numberDigits)
		return !is
	}
	return !each(s, func(b byte) bool { return isSmall(b) || isDigit(b) })
}

// Text returns the release that a version is.
func Text(v Version) (string, api.Errno) {
	numbers := []int{v.Major, v.Minor, v.Patch}
	switch {
	case !isProject(v.Project):
		return "", api.ErrName
	case slices.Min(numbers) < 0, slices.Max(numbers) > MaxNumber:
		return "", api.ErrRange
	case len(v.Pre) > MaxPre:
		return "", api.ErrLarge
	case slices.ContainsFunc(v.Pre, isNoPart):
		return "", api.ErrSyntax
	}
	s := v.Project + "-" + strconv.Itoa(v.Major) + "." + strconv.Itoa(v.Minor) + "." + strconv.Itoa(v.Patch)
	if len(v.Pre) > 0 {
		s += "-" + strings.Join(v.Pre, ".")
	}
	if len(s) > api.MaxName {
		return "", api.ErrLarge
	}
	return s, api.OK
}

// Compare returns -1, 0 or 1: whether a is less than b, equal, or greater.
func Compare(a, b Version) int {
	c := cmp.Or(cmp.Compare(a.Project, b.Project), cmp.Compare(a.Major, b.Major), cmp.Compare(a.Minor, b.Minor), cmp.Compare(a.Patch, b.Patch))
	switch {
	case c != 0:
		return c
	case len(a.Pre) == 0 && len(b.Pre) > 0:
		return 1
	case len(a.Pre) > 0 && len(b.Pre) == 0:
		return -1
	}
	return slices.CompareFunc(a.Pre, b.Pre, compareParts)
}

// compareParts takes a part with a 0 ahead for a number, too: versions need not be right.
func compareParts(a, b string) int {
	m, isA := partNumber(a)
	n, isB := partNumber(b)
	switch {
	case isA && isB:
		return cmp.Compare(m, n)
	case isA:
		return -1
	case isB:
		return 1
	}
	return cmp.Compare(a, b)
}

func partNumber(s string) (int, bool) {
	if len(s) > numberDigits || !each(s, isDigit) {
		return 0, false
	}
	n, err := strconv.Atoi(s)
	return n, err == nil
}
