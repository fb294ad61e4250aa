package release_test

// The general rules (Z1 to Z12) where the tests of the promises do not ask for them: Z3 and Z4 are asked for with the errors of each function, Z10 with Parse, ReadState and ReadOwners, Z11 with Sorted and Compare, Z12 with Healthy and Suspects.

import (
	"fmt"
	"math"
	"slices"
	"strings"
	"sync"
	"testing"

	"inquest/api"
	"inquest/release"
)

// given is an argument of each kind.
type given struct {
	version  release.Version
	releases []string
	sessions []release.Session
	state    release.State
	event    api.Event
	commits  []release.Commit
	owners   []release.Owner
	faults   []api.Fault
	s        string
	n        int
}

// good are arguments without errors.
func good() given {
	return given{
		version:  release.Version{Project: "app", Major: 1, Pre: []string{"rc", "1"}},
		releases: []string{"app-1.0.0", "app-0.9.0", "app-1.0.0"},
		sessions: []release.Session{session(func(s *release.Session) {}), session(func(s *release.Session) { s.Out, s.User = release.Crashed, "bob" }), session(func(s *release.Session) { s.Release = "app-0.9.0" })},
		state:    release.State{Kind: release.Resolved, At: 5, In: "app-1.0.0", Till: -1, More: -1, People: -1},
		event:    came(9, "app-1.0.0", 1),
		commits:  []release.Commit{commit(func(c *release.Commit) {}), commit(func(c *release.Commit) { c.Id = "c2" })},
		owners:   []release.Owner{owner("*", "ann"), owner("app*", "bob", "cy")},
		faults:   trace([]api.Frame{own("a.go"), lib("b.go"), own("b.go")}, []api.Frame{own("x/a.go")}),
		s:        "app-1.0.0",
		n:        9,
	}
}

// everything is what all functions return for these arguments.
func everything(g given) []string {
	var r []string
	add := func(results ...any) { r = append(r, fmt.Sprintf("%v", results)) }
	v, e := release.Parse(g.s)
	add(v, e)
	text, e := release.Text(g.version)
	add(text, e, release.Compare(v, g.version), release.Compare(g.version, g.version))
	l, e := release.Sorted(g.releases)
	add(l, e)
	text, e = release.Latest(g.releases, g.version.Project, g.n%2 == 0)
	add(text, e)
	text, e = release.After(g.releases, g.s)
	add(text, e)
	for _, s := range g.sessions {
		add(release.CheckSession(s))
	}
	healths, e := release.Healthy(g.sessions, -g.n, g.n)
	add(healths, e)
	text, e = release.StateText(g.state)
	add(text, e, release.CheckState(g.state))
	state, e := release.ReadState(g.s)
	add(state, e)
	state, again, e := release.Seen(g.state, g.event, g.releases, g.n)
	add(state, again, e)
	suspects, e := release.Suspects(g.faults, g.commits, g.releases, g.s)
	add(suspects, e, release.CheckCommits(g.commits))
	who, e := release.OwnersOf(g.owners, g.s)
	pattern := g.s[:min(len(g.s), 10_000)] // longer ones have a test of their own
	add(who, e, release.CheckOwners(g.owners), release.Fits(pattern, pattern), release.Fits("*"+pattern, pattern))
	text, e = release.OwnersText(g.owners)
	add(text, e)
	owners, n, e := release.ReadOwners(g.s)
	add(owners, n, e)
	return r
}

// Z1 and Z9: every call returns, whatever the numbers and bytes are.
func TestHostile(t *testing.T) {
	texts := []string{
		"", "\x00", "\xff\xfe", ".", "-", "/", "*", "?", " ", "\n", "a-", "a-.", "a-1.", "a-1.0.", "a-1.0.0-", "-.-.-", "open", "open at", "resolved at 5 in", "ignored at 5 till",
		word(1_000_001), strings.Repeat(".", 1_000_000), strings.Repeat("-", 1_000_000), strings.Repeat("/", 1_000_000), strings.Repeat(" ", 1_000_000), strings.Repeat("\n", 1_000_000), strings.Repeat("*", 1_000_000), strings.Repeat("9", 1_000_000), "a-1.0.0-" + strings.Repeat("a.", 500_000), "open at " + strings.Repeat("9", 999_000), "open" + strings.Repeat(" at 5", 100_000), strings.Repeat("a b\n", 250_000), "a" + strings.Repeat(" b", 499_999) + "\n",
	}
	for _, n := range []int{math.MinInt, -1, 0, 1, 3, 5, math.MaxInt} {
		for _, s := range texts {
			wild := given{
				version:  release.Version{Project: s, Major: n, Minor: n, Patch: n, Pre: []string{s, "", s}},
				releases: []string{"app-1.0.0", s},
				sessions: []release.Session{{At: n, Long: n, Release: s, Out: n, User: s}},
				state:    release.State{Kind: n, At: n, In: s, Next: true, Till: n, More: n, People: n, Again: n},
				event:    api.Event{Id: s, At: n, Level: n, Release: s, User: s, Weight: n},
				commits:  []release.Commit{{Id: s, Author: s, Release: s, Files: []string{s, s}}},
				owners:   []release.Owner{{Pattern: s, Who: []string{s, s}}},
				faults:   []api.Fault{{Kind: s, Text: s, Frames: []api.Frame{{Module: s, Func: s, File: s, Line: n, Addr: n}}}},
				s:        s,
				n:        n,
			}
			everything(wild)
			// And one wild argument after the other, so that those before it are no errors.
			for _, change := range []func(g *given){
				func(g *given) { g.version = wild.version },
				func(g *given) { g.releases = wild.releases },
				func(g *given) { g.sessions = wild.sessions },
				func(g *given) { g.state = wild.state },
				func(g *given) { g.event = wild.event },
				func(g *given) { g.commits = wild.commits },
				func(g *given) { g.owners = wild.owners },
				func(g *given) { g.faults = wild.faults },
				func(g *given) { g.s = s },
				func(g *given) { g.n = n },
			} {
				g := good()
				change(&g)
				everything(g)
			}
		}
	}
	large := good()
	large.version.Pre, large.releases, large.sessions, large.commits, large.owners, large.faults = make([]string, 1_000_000), make([]string, 1_000_000), make([]release.Session, 1000), make([]release.Commit, 1_000_000), make([]release.Owner, 1_000_000), make([]api.Fault, 1_000_000)
	everything(large)
	release.Healthy(make([]release.Session, 1_000_000), 0, 0)
}

// spare returns a list with a full capacity behind its length.
func spare[T any](l []T, behind T) []T {
	r := append(slices.Clone(l), behind, behind, behind)
	return r[:len(l)]
}

// spared has spare memory behind all lists.
func spared() given {
	g := good()
	g.version.Pre = spare(g.version.Pre, "behind")
	g.releases = spare(g.releases, "behind")
	g.sessions = spare(g.sessions, release.Session{User: "behind"})
	g.event.Faults = spare(g.event.Faults, api.Fault{Kind: "behind"})
	g.commits = spare(g.commits, release.Commit{Id: "behind"})
	for i := range g.commits {
		g.commits[i].Files = spare(g.commits[i].Files, "behind")
	}
	g.owners = spare(g.owners, release.Owner{Pattern: "behind"})
	for i := range g.owners {
		g.owners[i].Who = spare(g.owners[i].Who, "behind")
	}
	g.faults = spare(g.faults, api.Fault{Kind: "behind"})
	for i := range g.faults {
		g.faults[i].Frames = spare(g.faults[i].Frames, lib("behind"))
	}
	return g
}

// whole is all that is in the memory of arguments.
func whole(g given) string {
	s := fmt.Sprint(g, g.version.Pre[:cap(g.version.Pre)], g.releases[:cap(g.releases)], g.sessions[:cap(g.sessions)], g.event.Faults[:cap(g.event.Faults)], g.commits[:cap(g.commits)], g.owners[:cap(g.owners)], g.faults[:cap(g.faults)])
	for _, c := range g.commits {
		s += fmt.Sprint(c.Files[:cap(c.Files)])
	}
	for _, o := range g.owners {
		s += fmt.Sprint(o.Who[:cap(o.Who)])
	}
	for _, f := range g.faults {
		s += fmt.Sprint(f.Frames[:cap(f.Frames)])
	}
	return s
}

// Z2: arguments are neither modified nor kept, and what is after a length stays as it is.
func TestArguments(t *testing.T) {
	for _, s := range []string{"app-1.0.0", "app-1.0.0-rc.1", "ignored at 5 more 3", "a b c\n*.go d\n", "x"} {
		g, same := spared(), good()
		g.s, same.s = s, s
		before := whole(g)
		first := everything(g)
		if after := whole(g); after != before {
			t.Fatalf("%s, not %s", after, before)
		}
		if again := everything(same); !slices.Equal(first, again) {
			t.Errorf("%v, then %v", first, again)
		}
	}
}

// Z2: results are new memory; no two lists of a result share any.
func TestResults(t *testing.T) {
	g := spared()
	before := whole(g)
	who, e := release.OwnersOf(g.owners, "app")
	if len(who) != 2 || e != api.OK {
		t.Fatal(who, e)
	}
	clear(who[:cap(who)])
	l, _ := release.Sorted(g.releases)
	clear(l[:cap(l)])
	if after := whole(g); after != before {
		t.Error("a result shares memory with an argument")
	}
	const text = "a b c\nd e f\ng h\n"
	owners, _, _ := release.ReadOwners(text)
	keep := fmt.Sprint(owners[1:])
	_ = append(owners[0].Who, "x", "y")
	clear(owners[0].Who[:cap(owners[0].Who)])
	if fmt.Sprint(owners[1:]) != keep || owners[0].Pattern != "a" {
		t.Error("owners share memory")
	}
	v := parsed(t, "a-1.0.0-b.c")
	w := parsed(t, "a-1.0.0-b.c")
	clear(v.Pre[:cap(v.Pre)])
	if fmt.Sprint(w) != "{a 1 0 0 [b c]}" {
		t.Error("two results share memory")
	}
}

// Z5: empty and nil lists are the same, in arguments and in results.
func TestEmpty(t *testing.T) {
	none, empty := good(), good()
	none.version.Pre, none.releases, none.sessions, none.commits, none.owners, none.faults = nil, nil, nil, nil, nil, trace(nil)
	empty.version.Pre, empty.releases, empty.sessions, empty.commits, empty.owners, empty.faults = []string{}, []string{}, []release.Session{}, []release.Commit{}, []release.Owner{}, trace([]api.Frame{})
	if got, want := everything(empty), everything(none); !slices.Equal(got, want) {
		t.Errorf("%v, not %v", got, want)
	}
	none.commits, empty.commits = []release.Commit{{Id: "a", Author: "a", Release: "a-1.0.0"}}, []release.Commit{{Id: "a", Author: "a", Release: "a-1.0.0", Files: []string{}}}
	none.owners, empty.owners = []release.Owner{{Pattern: "a"}}, []release.Owner{{Pattern: "a", Who: []string{}}}
	none.faults, empty.faults = nil, []api.Fault{}
	if got, want := everything(empty), everything(none); !slices.Equal(got, want) {
		t.Errorf("%v, not %v", got, want)
	}
	if c := release.Compare(release.Version{Pre: []string{}}, release.Version{}); c != 0 {
		t.Error(c)
	}
}

// Z7: goroutines get the same results, however the maps lie.
func TestTogether(t *testing.T) {
	g := good()
	for i := range 50 {
		s := fmt.Sprintf("app-%d.%d.0", i*7%10, i*3%7)
		g.releases = append(g.releases, s)
		g.sessions = append(g.sessions, session(func(x *release.Session) { x.Release, x.User, x.Out = s, fmt.Sprint("u", i%13), 1+i%4 }))
		g.faults[0].Frames = append(g.faults[0].Frames, own(fmt.Sprint("f", i%17)))
		g.commits = append(g.commits, commit(func(c *release.Commit) { c.Id, c.Files = fmt.Sprint("d", i), []string{fmt.Sprint("f", i%19)} }))
	}
	want := everything(g)
	var group sync.WaitGroup
	for range 8 {
		group.Go(func() {
			for range 20 {
				if got := everything(g); !slices.Equal(got, want) {
					t.Error("other results")
				}
			}
		})
	}
	group.Wait()
}
