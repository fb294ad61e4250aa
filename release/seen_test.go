package release_test

import (
	"math"
	"math/rand"
	"slices"
	"testing"

	"inquest/api"
	"inquest/release"
)

// P6.5
func TestSeen(t *testing.T) {
	known := []string{"app-1.0.1", "apq-9.0.0", "app-0.9.0"}
	for _, c := range []struct {
		state, in          string
		at, weight, people int
		want               string
	}{
		{"open at 5", "", 9, 1, 1, "open at 5"},
		{"open at 5 again 7", "app-9.0.0", 9, 1_000_000, 1_000_000, "open at 5 again 7"},
		{"resolved at 5", "", 4, 1, 1, "resolved at 5"},
		{"resolved at 5", "app-9.0.0", 5, 1, 1, "resolved at 5"},
		{"resolved at 5", "app-0.0.1", 6, 1, 1, "open at 6 again 1"},
		{"resolved at 5 again 4", "", 6, 1, 1, "open at 6 again 5"},
		{"resolved at 5 again 999999", "", 6, 1, 1, "open at 6 again 1000000"},
		{"resolved at 5 again 1000000", "", 6, 1, 1, "open at 6 again 1000000"},
		// The release of the event tells, whenever it came.
		{"resolved at 5 in app-1.0.1", "app-1.0.0", 9, 1, 1, "resolved at 5 in app-1.0.1"},
		{"resolved at 5 in app-1.0.1", "app-1.0.1-rc.1", 9, 1, 1, "resolved at 5 in app-1.0.1"},
		{"resolved at 5 in app-1.0.1", "app-1.0.1", 0, 1, 1, "open at 0 again 1"},
		{"resolved at 5 in app-1.0.1", "app-1.0.2", 5, 1, 1, "open at 5 again 1"},
		{"resolved at 5 in app-1.0.1-rc.1", "app-1.0.1", 5, 1, 1, "open at 5 again 1"},
		{"resolved at 5 after app-1.0.1", "app-1.0.1", 9, 1, 1, "resolved at 5 after app-1.0.1"},
		{"resolved at 5 after app-1.0.1", "app-1.0.0", 9, 1, 1, "resolved at 5 after app-1.0.1"},
		{"resolved at 5 after app-1.0.1", "app-1.0.2-a", 2, 1, 1, "open at 2 again 1"},
		{"resolved at 5 after app-1.0.1-a", "app-1.0.1", 2, 1, 1, "open at 2 again 1"},
		{"resolved at 5 in app-9.0.0", "app-10.0.0", 2, 1, 1, "open at 2 again 1"},
		// No release, none of this form, or another project: what is known tells.
		{"resolved at 5 in app-1.0.1", "", 5, 1, 1, "resolved at 5 in app-1.0.1"},
		{"resolved at 5 in app-1.0.1", "", 6, 1, 1, "open at 6 again 1"},
		{"resolved at 5 in app-1.0.1", "app-7", 6, 1, 1, "open at 6 again 1"},
		{"resolved at 5 in app-1.0.1", "apq-0.0.1", 6, 1, 1, "open at 6 again 1"},
		{"resolved at 5 in app-1.0.1", "apq-0.0.1", 5, 1, 1, "resolved at 5 in app-1.0.1"},
		{"resolved at 5 in app-1.0.1-a", "", 6, 1, 1, "open at 6 again 1"},
		{"resolved at 5 in app-1.0.2", "", 6, 1, 1, "resolved at 5 in app-1.0.2"},
		{"resolved at 5 in app-1.0.2-a", "app", 6, 1, 1, "resolved at 5 in app-1.0.2-a"},
		{"resolved at 5 in ap-1.0.0", "", 6, 1, 1, "resolved at 5 in ap-1.0.0"},
		{"resolved at 5 after app-1.0.1", "", 6, 1, 1, "resolved at 5 after app-1.0.1"},
		{"resolved at 5 after app-1.0.1-a", "", 6, 1, 1, "open at 6 again 1"},
		{"resolved at 5 after app-1.0.0", "b-9.9.9", 6, 1, 1, "open at 6 again 1"},
		{"resolved at 5 after app-1.0.0", "b-9.9.9", 5, 1, 1, "resolved at 5 after app-1.0.0"},
		{"ignored at 5", "app-9.0.0", 9, 1_000_000, 1_000_000, "ignored at 5"},
		{"ignored at 5 till 9", "", 9, 1, 1, "ignored at 5 till 9"},
		{"ignored at 5 till 9", "", 10, 1, 1, "open at 10 again 1"},
		{"ignored at 5 till 0", "", 0, 1, 1, "ignored at 5 till 0"},
		{"ignored at 5 till 3", "", 4, 1, 1, "open at 4 again 1"},
		{"ignored at 5 more 3 again 2", "", 6, 2, 1, "ignored at 5 more 1 again 2"},
		{"ignored at 5 more 3", "", 6, 3, 1, "open at 6 again 1"},
		{"ignored at 5 more 3", "", 6, 4, 1, "open at 6 again 1"},
		{"ignored at 5 more 1000000", "", 6, 999_999, 1, "ignored at 5 more 1"},
		{"ignored at 5 more 0", "", 3, 1, 1, "open at 3 again 1"},
		{"ignored at 5 people 3", "", 6, 9, 2, "ignored at 5 people 3"},
		{"ignored at 5 people 3", "", 6, 1, 3, "open at 6 again 1"},
		{"ignored at 5 people 3", "", 6, 1, 4, "open at 6 again 1"},
		{"ignored at 5 people 0", "", 6, 1, 0, "open at 6 again 1"},
		{"ignored at 5 till 9 more 9 people 9", "", 9, 8, 8, "ignored at 5 till 9 more 1 people 9"},
		{"ignored at 5 till 9 more 9 people 9 again 1", "", 10, 1, 1, "open at 10 again 2"},
		{"ignored at 5 till 9 more 9 people 9 again 1", "", 1, 9, 1, "open at 1 again 2"},
		{"ignored at 5 till 9 more 9 people 9 again 1", "", 1, 1, 9, "open at 1 again 2"},
	} {
		x, again, e := release.Seen(state(t, c.state), came(c.at, c.in, c.weight), known, c.people)
		if x != state(t, c.want) || again != (x != state(t, c.state) && x.Kind == release.Open) || e != api.OK {
			t.Errorf("%v: %v %v %v", c, x, again, e)
		}
	}
	// Without releases there is none that has it.
	if x, again, e := release.Seen(state(t, "resolved at 5 in app-0.0.0"), came(9, "", 1), nil, 1); x.Kind != release.Resolved || again || e != api.OK {
		t.Error(x, again, e)
	}
}

// plainSeen is a plain reading of P6.5: whether the group is opened again.
func plainSeen(t *testing.T, s release.State, e api.Event, known []string, people int) bool {
	switch s.Kind {
	case release.Resolved:
		if s.In == "" {
			return e.At > s.At
		}
		in := parsed(t, s.In)
		if v, x := release.Parse(e.Release); x == api.OK && v.Project == in.Project {
			if s.Next {
				return release.Compare(v, in) > 0
			}
			return release.Compare(v, in) >= 0
		}
		if e.At <= s.At {
			return false
		}
		for _, k := range known {
			v := parsed(t, k)
			if v.Project == in.Project && release.Compare(v, in) > 0 || !s.Next && k == s.In {
				return true
			}
		}
	case release.Ignored:
		late := s.Till != -1 && e.At > s.Till
		often := s.More != -1 && s.More <= e.Weight
		many := s.People != -1 && people >= s.People
		return late || often || many
	}
	return false
}

// P6.5: plain readings.
func TestSeenPlainly(t *testing.T) {
	r := rand.New(rand.NewSource(6))
	opened := 0
	for range 50_000 {
		s, known, people := randomState(r), randomReleases(r, 5), r.Intn(6)
		e := came(r.Intn(12), oneOf(r, "", "a", "b-1", randomRelease(r), randomRelease(r), randomRelease(r)), 1+r.Intn(4))
		want := s
		again := plainSeen(t, s, e, known, people)
		if again {
			opened++
			want = open(func(x *release.State) { x.At, x.Again = e.At, min(s.Again+1, 1_000_000) })
		} else if s.More > 0 {
			want.More = s.More - e.Weight
		}
		if got, is, x := release.Seen(s, e, known, people); got != want || is != again || x != api.OK {
			t.Fatalf("%v %v %v %d: %v %v %v", s, e, known, people, got, is, x)
		}
	}
	if opened < 10_000 {
		t.Error(opened)
	}
}

// P6.5: errors of Seen, each before those behind it.
func TestSeenErrors(t *testing.T) {
	full := slices.Repeat([]string{"a-1.0.0"}, api.MaxEvents)
	bad := came(1, "", 0)
	for i, c := range []struct {
		state    release.State
		event    api.Event
		releases []string
		people   int
		want     api.Errno
	}{
		{state(t, "open at 5"), came(1, "", 1), full, 0, api.OK},
		{state(t, "open at 5"), came(1, "", 1), nil, release.MaxUsers, api.OK},
		{release.State{}, bad, make([]string, 2001), -1, api.ErrKind},
		{state(t, "open at 5"), bad, make([]string, 2001), -1, api.ErrRange},
		{state(t, "open at 5"), api.Event{}, []string{""}, -1, api.ErrForm},
		{state(t, "open at 5"), came(1, "A", 1), []string{""}, -1, api.ErrName},
		{state(t, "open at 5"), came(1, "", 1), append(full[:2000:2000], ""), -1, api.ErrLarge},
		{state(t, "open at 5"), came(1, "", 1), []string{"a-1.0.0", "a"}, -1, api.ErrSyntax},
		{state(t, "open at 5"), came(1, "", 1), full, -1, api.ErrRange},
		{state(t, "ignored at 5 people 5"), came(1, "", 1), nil, release.MaxUsers + 1, api.ErrRange},
		{state(t, "resolved at 5"), came(1, "", 1), nil, math.MaxInt, api.ErrRange},
		{state(t, "resolved at 5"), came(1, "", 1), nil, math.MinInt, api.ErrRange},
	} {
		x, again, e := release.Seen(c.state, c.event, c.releases, c.people)
		if e != c.want || again || e != api.OK && x != (release.State{}) {
			t.Errorf("%d: %v %v %v, not %v", i, x, again, e, c.want)
		}
	}
	for _, c := range badStates() {
		if x, again, e := release.Seen(c.state, api.Event{}, nil, 0); x != (release.State{}) || again || e != c.want {
			t.Errorf("%s: %v %v %v, not %v", c.name, x, again, e, c.want)
		}
	}
}

// What follows: a state that is Resolved in a release is not opened by events of lesser ones.
func TestSeenLesser(t *testing.T) {
	r := rand.New(rand.NewSource(7))
	for range 10_000 {
		s := release.State{Kind: release.Resolved, In: randomRelease(r), Next: r.Intn(2) == 0, Till: -1, More: -1, People: -1}
		in := randomRelease(r)
		if v, w := parsed(t, in), parsed(t, s.In); v.Project != w.Project || release.Compare(v, w) >= 0 {
			continue
		}
		if x, again, e := release.Seen(s, came(9, in, 1), randomReleases(r, 9), 0); x != s || again || e != api.OK {
			t.Fatal(s, in, x, again, e)
		}
	}
}
