package release

import (
	"cmp"
	"slices"
	"strings"

	"inquest/api"
	"inquest/stack"
)

const mostPoints = 100 // for one frame

// CheckCommits returns the first error of commits.
func CheckCommits(l []Commit) api.Errno {
	if len(l) > MaxCommits {
		return api.ErrLarge
	}
	earlier := map[string]bool{}
	for _, c := range l {
		switch {
		case !isName(c.Id), !isName(c.Author):
			return api.ErrName
		case earlier[c.Id]:
			return api.ErrTwice
		case !isRelease(c.Release):
			return api.ErrSyntax
		}
		if e := checkFiles(c.Files); e != api.OK {
			return e
		}
		earlier[c.Id] = true
	}
	return api.OK
}

func checkFiles(l []string) api.Errno {
	if len(l) > MaxPaths {
		return api.ErrLarge
	}
	for i, file := range l {
		if e := checkWord(file, '!'); e != api.OK {
			return e
		}
		if i > 0 && file <= l[i-1] {
			return api.ErrOrder
		}
	}
	return api.OK
}

// Suspects returns the commits that may have brought faults, which came first in a release.
func Suspects(l []api.Fault, commits []Commit, releases []string, first string) ([]Suspect, api.Errno) {
	if e := cmp.Or(stack.Check(l), CheckCommits(commits)); e != api.OK {
		return nil, e
	}
	known, e := parseAll(releases)
	if e != api.OK {
		return nil, e
	}
	last, e := Parse(first)
	if e != api.OK {
		return nil, e
	}
	isNew := newIn(last, known)
	weights := fileWeights(l)
	var suspects []Suspect
	for _, c := range commits {
		v, _ := parse(c.Release)
		if !isNew(v) {
			continue
		}
		if n := points(c, weights); n > 0 {
			suspects = append(suspects, Suspect{c.Id, n})
		}
	}
	slices.SortFunc(suspects, func(a, b Suspect) int {
		return cmp.Or(cmp.Compare(b.Points, a.Points), cmp.Compare(a.Commit, b.Commit))
	})
	return suspects, api.OK
}

// newIn returns a function that tells whether what came in a version is new in the last one: the known one before that did not have it.
func newIn(last Version, known []listed) func(v Version) bool {
	before, found := pick(known, func(v Version) bool { return v.Project == last.Project && Compare(v, last) < 0 }, Compare)
	return func(v Version) bool {
		return v.Project == last.Project && Compare(v, last) <= 0 && (!found || Compare(v, before.version) > 0)
	}
}

// fileWeights returns for each File the points of all Own frames with it. Frames without one have a number, too.
func fileWeights(l []api.Fault) map[string]int {
	weights := map[string]int{}
	number := 0
	for _, fault := range l {
		for _, frame := range fault.Frames {
			if !frame.Own {
				continue
			}
			number++
			if frame.File != "" {
				weights[frame.File] += max(1, mostPoints/number)
			}
		}
	}
	return weights
}

func points(c Commit, weights map[string]int) int {
	n := 0
	for file, weight := range weights {
		if slices.ContainsFunc(c.Files, func(s string) bool { return isEnd(s, file) || isEnd(file, s) }) {
			n += weight
		}
	}
	return n
}

// isEnd tells whether a path is all of another one, or its end behind a /. Where a program is built and where changes are kept the paths of a file may begin in other folders.
func isEnd(end, path string) bool {
	start, ok := strings.CutSuffix(path, end)
	return ok && (start == "" || strings.HasSuffix(start, "/"))
}
