package release_test

import (
	"math/rand"
	"strings"
	"testing"

	"inquest/api"
	"inquest/release"
)

// word is a string of so many bytes.
func word(n int) string { return strings.Repeat("w", n) }

// randomFrom is a string of so many bytes at most, of these.
func randomFrom(r *rand.Rand, bytes string, most int) string {
	var b strings.Builder
	for range r.Intn(most + 1) {
		b.WriteByte(bytes[r.Intn(len(bytes))])
	}
	return b.String()
}

// oneOf is one of some strings.
func oneOf(r *rand.Rand, l ...string) string { return l[r.Intn(len(l))] }

// randomRelease is one of few releases, so that some are equal, and some near.
func randomRelease(r *rand.Rand) string {
	return oneOf(r, "a", "b") + "-" + oneOf(r, "0", "1", "10") + "." + oneOf(r, "0", "2") + "." + oneOf(r, "0", "1") + oneOf(r, "", "", "", "-a", "-a.1", "-1", "-2.a", "-10")
}

// randomReleases are so many of them at most.
func randomReleases(r *rand.Rand, most int) (l []string) {
	for range r.Intn(most + 1) {
		l = append(l, randomRelease(r))
	}
	return l
}

// changed is a string with a change: a few bytes out, a few others in.
func changed(r *rand.Rand, s, bytes string) string {
	at := r.Intn(len(s) + 1)
	out := min(r.Intn(3), len(s)-at)
	return s[:at] + randomFrom(r, bytes, 2) + s[at+out:]
}

func parsed(t *testing.T, s string) release.Version {
	t.Helper()
	v, e := release.Parse(s)
	if e != api.OK {
		t.Fatalf("%q: %v", s, e)
	}
	return v
}

func state(t *testing.T, s string) release.State {
	t.Helper()
	x, e := release.ReadState(s)
	if e != api.OK {
		t.Fatalf("%q: %v", s, e)
	}
	return x
}

// open is a state with a change.
func open(change func(s *release.State)) release.State {
	s := release.State{Kind: release.Open, At: 5, Till: -1, More: -1, People: -1}
	change(&s)
	return s
}

// session is a good one, with a change.
func session(change func(s *release.Session)) release.Session {
	s := release.Session{At: 5, Long: 60, Release: "app-1.0.0", Out: release.Fine, User: "ann b"}
	change(&s)
	return s
}

// commit is a good one, with a change.
func commit(change func(c *release.Commit)) release.Commit {
	c := release.Commit{Id: "c1", Author: "ann", Release: "app-1.0.0", Files: []string{"a.go", "src/b.go"}}
	change(&c)
	return c
}

// owner is a pattern, and whose it is.
func owner(pattern string, who ...string) release.Owner {
	return release.Owner{Pattern: pattern, Who: who}
}

// came is an event at a moment, of a release, that stands for so many.
func came(at int, in string, weight int) api.Event {
	return api.Event{Id: "0123456789abcdef", At: at, Level: 4, Weight: weight, Release: in, Faults: []api.Fault{{Kind: "Oops"}}}
}

// own is a frame of the program itself, lib is one that is not.
func own(file string) api.Frame { return api.Frame{Func: "f", File: file, Addr: -1, Own: true} }

func lib(file string) api.Frame { return api.Frame{Func: "f", File: file, Addr: -1} }

// trace is a fault for each list of frames.
func trace(l ...[]api.Frame) (faults []api.Fault) {
	for _, frames := range l {
		faults = append(faults, api.Fault{Kind: "Oops", Frames: frames})
	}
	return faults
}

// letters are so many different names, rising.
func letters(n int) (l []string) {
	for i := range n {
		l = append(l, "n"+string(rune('a'+i/26))+string(rune('a'+i%26)))
	}
	return l
}
