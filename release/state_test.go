package release_test

import (
	"math"
	"math/rand"
	"strconv"
	"strings"
	"testing"

	"inquest/api"
	"inquest/release"
)

// badState is a state with an error.
type badState struct {
	name  string
	state release.State
	want  api.Errno
}

// badStates has states with errors of all kinds; each error comes before those of the kinds behind it.
func badStates() []badState {
	resolved := func(change func(s *release.State)) release.State {
		return open(func(s *release.State) {
			s.Kind, s.In = release.Resolved, "app-1.0.0"
			change(s)
		})
	}
	ignored := func(change func(s *release.State)) release.State {
		return open(func(s *release.State) {
			s.Kind = release.Ignored
			change(s)
		})
	}
	return []badState{
		{"nothing", release.State{}, api.ErrKind},
		{"kind 4", open(func(s *release.State) { s.Kind, s.At = 4, -1 }), api.ErrKind},
		{"kind -1", open(func(s *release.State) { s.Kind = -1 }), api.ErrKind},
		{"at -1", open(func(s *release.State) { s.At = -1 }), api.ErrRange},
		{"at too late", resolved(func(s *release.State) { s.At, s.In = api.MaxMoment+1, "x" }), api.ErrRange},
		{"till -2", ignored(func(s *release.State) { s.Till = -2 }), api.ErrRange},
		{"till too late", open(func(s *release.State) { s.Till, s.In = api.MaxMoment+1, "x" }), api.ErrRange},
		{"more -2", ignored(func(s *release.State) { s.More = -2 }), api.ErrRange},
		{"more too many", ignored(func(s *release.State) { s.More = 1_000_001 }), api.ErrRange},
		{"people -2", ignored(func(s *release.State) { s.People = math.MinInt }), api.ErrRange},
		{"people too many", open(func(s *release.State) { s.People = math.MaxInt }), api.ErrRange},
		{"again -1", open(func(s *release.State) { s.Again = -1 }), api.ErrRange},
		{"again too often", open(func(s *release.State) { s.Again, s.Next = 1_000_001, true }), api.ErrRange},
		{"in no release", resolved(func(s *release.State) { s.In = "app" }), api.ErrSyntax},
		{"open in no release", open(func(s *release.State) { s.In = "app-1" }), api.ErrSyntax},
		{"next of no release", resolved(func(s *release.State) { s.In, s.Next, s.Till = "x", true, 5 }), api.ErrSyntax},
		{"open in", open(func(s *release.State) { s.In = "app-1.0.0" }), api.ErrForm},
		{"open next", open(func(s *release.State) { s.Next = true }), api.ErrForm},
		{"open after", open(func(s *release.State) { s.In, s.Next = "app-1.0.0", true }), api.ErrForm},
		{"ignored in", ignored(func(s *release.State) { s.In = "app-1.0.0" }), api.ErrForm},
		{"ignored next", ignored(func(s *release.State) { s.Next = true }), api.ErrForm},
		{"next of nothing", resolved(func(s *release.State) { s.In, s.Next = "", true }), api.ErrForm},
		{"open till", open(func(s *release.State) { s.Till = 0 }), api.ErrForm},
		{"open more", open(func(s *release.State) { s.More = 0 }), api.ErrForm},
		{"open people", open(func(s *release.State) { s.People = 0 }), api.ErrForm},
		{"resolved till", resolved(func(s *release.State) { s.Till = 9 }), api.ErrForm},
		{"resolved more", resolved(func(s *release.State) { s.More = 9 }), api.ErrForm},
		{"resolved people", resolved(func(s *release.State) { s.People = 9 }), api.ErrForm},
		{"zeros", release.State{Kind: release.Open}, api.ErrForm},
	}
}

// goodStates has texts of states, and these.
func goodStates() map[string]release.State {
	return map[string]release.State{
		"open at 0":                             {Kind: 1, Till: -1, More: -1, People: -1},
		"open at 3155759999 again 1000000":      {Kind: 1, At: api.MaxMoment, Till: -1, More: -1, People: -1, Again: 1_000_000},
		"resolved at 5":                         {Kind: 2, At: 5, Till: -1, More: -1, People: -1},
		"resolved at 5 again 3":                 {Kind: 2, At: 5, Till: -1, More: -1, People: -1, Again: 3},
		"resolved at 5 in app-1.0.0":            {Kind: 2, At: 5, In: "app-1.0.0", Till: -1, More: -1, People: -1},
		"resolved at 5 after a-1.0.0-a again 1": {Kind: 2, At: 5, In: "a-1.0.0-a", Next: true, Till: -1, More: -1, People: -1, Again: 1},
		"ignored at 5":                          {Kind: 3, At: 5, Till: -1, More: -1, People: -1},
		"ignored at 5 till 0":                   {Kind: 3, At: 5, More: -1, People: -1},
		"ignored at 5 more 0":                   {Kind: 3, At: 5, Till: -1, People: -1},
		"ignored at 5 people 0":                 {Kind: 3, At: 5, Till: -1, More: -1},
		"ignored at 9 till 3155759999 more 1000000 people 1000000 again 2": {Kind: 3, At: 9, Till: api.MaxMoment, More: 1_000_000, People: 1_000_000, Again: 2},
	}
}

// P6.4
func TestStateText(t *testing.T) {
	for text, s := range goodStates() {
		if e := release.CheckState(s); e != api.OK {
			t.Error(text, e)
		}
		if got, e := release.StateText(s); got != text || e != api.OK {
			t.Errorf("%s: %s %v", text, got, e)
		}
		if got, e := release.ReadState(text); got != s || e != api.OK {
			t.Errorf("%s: %v %v", text, got, e)
		}
	}
	for _, c := range badStates() {
		if e := release.CheckState(c.state); e != c.want {
			t.Errorf("%s: %v, not %v", c.name, e, c.want)
		}
		if s, e := release.StateText(c.state); s != "" || e != c.want {
			t.Errorf("%s: %q %v, not %v", c.name, s, e, c.want)
		}
	}
}

// P6.4: what StateText does not write.
func TestReadStateErrors(t *testing.T) {
	for s, want := range map[string]api.Errno{
		"": api.ErrSyntax, " ": api.ErrSyntax, "open": api.ErrSyntax, "open ": api.ErrSyntax, "open at": api.ErrSyntax, "open at ": api.ErrSyntax, "open 5": api.ErrSyntax, "at 5": api.ErrSyntax, " open at 5": api.ErrSyntax, "open at 5 ": api.ErrSyntax, "open at 5\n": api.ErrSyntax, "open  at 5": api.ErrSyntax, "open at  5": api.ErrSyntax, "open\tat 5": api.ErrSyntax, "Open at 5": api.ErrSyntax, "opened at 5": api.ErrSyntax, "open At 5": api.ErrSyntax, "open at 5 open": api.ErrSyntax, "open at 5 at 5": api.ErrSyntax,
		"open at 05": api.ErrSyntax, "open at 00": api.ErrSyntax, "open at -0": api.ErrSyntax, "open at -1": api.ErrSyntax, "open at +5": api.ErrSyntax, "open at 5x": api.ErrSyntax, "open at 5_0": api.ErrSyntax, "open at 0x5": api.ErrSyntax, "open at 10000000000": api.ErrSyntax, "open at 99999999999999999999": api.ErrSyntax, "open at \xff": api.ErrSyntax,
		"open at 5 again": api.ErrSyntax, "open at 5 again ": api.ErrSyntax, "open at 5 again 0": api.ErrSyntax, "open at 5 again 01": api.ErrSyntax, "open at 5 again -1": api.ErrSyntax, "open at 5 again 1 ": api.ErrSyntax, "open at 5 again 1 again 1": api.ErrSyntax, "open at 5 again 10000000000": api.ErrSyntax,
		"resolved at 5 in": api.ErrSyntax, "resolved at 5 in ": api.ErrSyntax, "resolved at 5 after": api.ErrSyntax, "resolved at 5 after ": api.ErrSyntax, "resolved at 5 in app": api.ErrSyntax, "resolved at 5 after app-01.0.0": api.ErrSyntax, "resolved at 5 in app-1.0.0 after app-1.0.0": api.ErrSyntax, "resolved at 5 after app-1.0.0 in app-1.0.0": api.ErrSyntax, "resolved at 5 in x after app-1.0.0": api.ErrSyntax, "resolved at 5 next": api.ErrSyntax, "resolved in app-1.0.0 at 5": api.ErrSyntax, "resolved at 5 app-1.0.0": api.ErrSyntax, "resolved at 9999999999 in app": api.ErrSyntax,
		"ignored at 5 till": api.ErrSyntax, "ignored at 5 till -1": api.ErrSyntax, "ignored at 5 till 06": api.ErrSyntax, "ignored at 5 more -1": api.ErrSyntax, "ignored at 5 people -1": api.ErrSyntax, "ignored at 5 more 1 till 6": api.ErrSyntax, "ignored at 5 people 1 more 1": api.ErrSyntax, "ignored at 5 again 1 till 6": api.ErrSyntax, "ignored at 5 till 6 till 6": api.ErrSyntax, "ignored at 5 more 10000000000": api.ErrSyntax, "ignored at 5 till6": api.ErrSyntax, "ignored till 6 at 5": api.ErrSyntax,
		"open at 5 more 1 till 6": api.ErrSyntax, "open at 9999999999 ": api.ErrSyntax, "open at 5 till 9999999999 x": api.ErrSyntax,
		"open at 3155760000": api.ErrRange, "open at 9999999999 in app-1.0.0": api.ErrRange, "ignored at 5 till 3155760000": api.ErrRange, "ignored at 5 more 1000001": api.ErrRange, "ignored at 5 people 9999999999": api.ErrRange, "resolved at 5 again 1000001": api.ErrRange, "open at 5 till 9999999999": api.ErrRange,
		"open at 5 in app-1.0.0": api.ErrForm, "open at 5 after app-1.0.0": api.ErrForm, "ignored at 5 in app-1.0.0": api.ErrForm, "open at 5 till 6": api.ErrForm, "open at 5 more 6": api.ErrForm, "resolved at 5 people 6": api.ErrForm, "resolved at 5 in app-1.0.0 till 6 again 1": api.ErrForm,
	} {
		if x, e := release.ReadState(s); x != (release.State{}) || e != want {
			t.Errorf("%q: %v %v, not %v", s, x, e, want)
		}
	}
}

// randomState is a state without errors.
func randomState(r *rand.Rand) release.State {
	s := open(func(s *release.State) { s.Kind, s.At, s.Again = 1+r.Intn(3), r.Intn(12), r.Intn(3) })
	if r.Intn(20) == 0 {
		s.Again = release.MaxUsers - r.Intn(2)
	}
	switch {
	case s.Kind == release.Resolved && r.Intn(4) > 0:
		s.In, s.Next = randomRelease(r), r.Intn(2) == 0
	case s.Kind == release.Ignored:
		s.Till, s.More, s.People = max(-1, r.Intn(18)-6), max(-1, r.Intn(9)-4), max(-1, r.Intn(9)-4)
	}
	return s
}

// P6.4: ReadState reads just what StateText writes.
func TestReadStateExact(t *testing.T) {
	r := rand.New(rand.NewSource(5))
	read := 0
	for range 100_000 {
		s := randomState(r)
		text, e := release.StateText(s)
		if e != api.OK {
			t.Fatal(s, e)
		}
		if got, e := release.ReadState(text); got != s || e != api.OK {
			t.Fatalf("%q: %v %v", text, got, e)
		}
		other := changed(r, text, " 0159-.ainot")
		if r.Intn(3) == 0 { // some word is another one
			words := strings.Split(text, " ")
			words[r.Intn(len(words))] = oneOf(r, "open", "resolved", "ignored", "at", "in", "after", "till", "more", "people", "again", "a-1.0.0", strconv.Itoa(r.Intn(9)))
			other = strings.Join(words, " ")
		}
		if got, e := release.ReadState(other); e == api.OK {
			read++
			if again, _ := release.StateText(got); again != other {
				t.Fatalf("%q is read as %q", other, again)
			}
		}
	}
	if read < 10_000 {
		t.Error(read)
	}
}
