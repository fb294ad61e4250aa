package release_test

import (
	"math"
	"math/rand"
	"slices"
	"strconv"
	"testing"

	"inquest/api"
	"inquest/release"
)

// badSession is a session with an error.
type badSession struct {
	name    string
	session release.Session
	want    api.Errno
}

// badSessions has sessions with errors of all kinds; each error comes before those of the fields behind it.
func badSessions() []badSession {
	return []badSession{
		{"nothing", release.Session{}, api.ErrSyntax},
		{"at -1", session(func(s *release.Session) { s.At, s.Release = -1, "" }), api.ErrRange},
		{"at too late", session(func(s *release.Session) { s.At = api.MaxMoment + 1 }), api.ErrRange},
		{"at the greatest", session(func(s *release.Session) { s.At = math.MaxInt }), api.ErrRange},
		{"long -1", session(func(s *release.Session) { s.Long = -1 }), api.ErrRange},
		{"too long", session(func(s *release.Session) { s.Long, s.Out = api.DayLong+1, 0 }), api.ErrRange},
		{"no release", session(func(s *release.Session) { s.Release, s.Out = "", 9 }), api.ErrSyntax},
		{"a name", session(func(s *release.Session) { s.Release = "app-1.0" }), api.ErrSyntax},
		{"out 0", session(func(s *release.Session) { s.Out, s.User = 0, "" }), api.ErrKind},
		{"out 5", session(func(s *release.Session) { s.Out = 5 }), api.ErrKind},
		{"out -1", session(func(s *release.Session) { s.Out = -1 }), api.ErrKind},
		{"no user", session(func(s *release.Session) { s.User = "" }), api.ErrForm},
		{"long user", session(func(s *release.Session) { s.User = word(200) + "\n" }), api.ErrLarge},
		{"byte 31", session(func(s *release.Session) { s.User = "a\x1f" }), api.ErrByte},
		{"byte 127", session(func(s *release.Session) { s.User = "\x7f" }), api.ErrByte},
		{"byte 128", session(func(s *release.Session) { s.User = "a\x80b" }), api.ErrByte},
	}
}

// P6.3
func TestCheckSession(t *testing.T) {
	for _, s := range []release.Session{
		session(func(s *release.Session) {}),
		{Release: "a-0.0.0", Out: release.Fine, User: " "},
		{At: api.MaxMoment, Long: api.DayLong, Release: "a-0.0.0-a", Out: release.Lost, User: "~" + word(199)},
		session(func(s *release.Session) { s.Out = release.Erred }),
		session(func(s *release.Session) { s.Out = release.Crashed }),
	} {
		if e := release.CheckSession(s); e != api.OK {
			t.Error(s, e)
		}
	}
	for _, c := range badSessions() {
		if e := release.CheckSession(c.session); e != c.want {
			t.Errorf("%s: %v, not %v", c.name, e, c.want)
		}
	}
}

// P6.3
func TestHealthy(t *testing.T) {
	at := func(at, out int, in, user string) release.Session {
		return release.Session{At: at, Release: in, Out: out, User: user}
	}
	l := []release.Session{
		at(10, release.Fine, "app-1.10.0", "ann"), at(20, release.Crashed, "app-1.2.0", "ann"), at(30, release.Erred, "app-1.2.0", "bob"), at(30, release.Lost, "app-1.2.0", "cy"), at(29, release.Fine, "app-1.2.0", "ann"), at(11, release.Crashed, "app-1.2.0", "dan"), at(31, release.Crashed, "app-1.2.0-rc.1", "x"), at(30, release.Crashed, "app-1.2.0", "ann"), at(12, release.Fine, "app-1.2.0", "Bob"),
	}
	for i, c := range []struct {
		from, to int
		want     []release.Health
	}{
		{10, 30, []release.Health{
			{Release: "app-1.2.0", All: 7, Erred: 1, Crashed: 3, Lost: 1, People: 5, Free: 5714, FreePeople: 6000, Share: 8750},
			{Release: "app-1.10.0", All: 1, People: 1, Free: 10_000, FreePeople: 10_000, Share: 1250},
		}},
		{31, 31, []release.Health{{Release: "app-1.2.0-rc.1", All: 1, Crashed: 1, People: 1, Share: 10_000}}},
		{12, 29, []release.Health{{Release: "app-1.2.0", All: 3, Crashed: 1, People: 2, Free: 6666, FreePeople: 5000, Share: 10_000}}},
		{30, math.MaxInt, []release.Health{
			{Release: "app-1.2.0-rc.1", All: 1, Crashed: 1, People: 1, Share: 2500},
			{Release: "app-1.2.0", All: 3, Erred: 1, Crashed: 1, Lost: 1, People: 3, Free: 6666, FreePeople: 6666, Share: 7500},
		}},
		{math.MinInt, 10, []release.Health{{Release: "app-1.10.0", All: 1, People: 1, Free: 10_000, FreePeople: 10_000, Share: 10_000}}},
		{32, 99, nil}, {-5, -5, nil},
	} {
		if got, e := release.Healthy(l, c.from, c.to); !slices.Equal(got, c.want) || e != api.OK {
			t.Errorf("%d: %v %v", i, got, e)
		}
	}
}

// plainHealth is a plain reading of P6.3 for a release.
func plainHealth(l []release.Session, in string, from, to int) (h release.Health) {
	h.Release = in
	all := 0
	var people, unlucky []string
	for _, s := range l {
		if s.At < from || s.At > to {
			continue
		}
		all++
		if s.Release != in {
			continue
		}
		h.All++
		if !slices.Contains(people, s.User) {
			people = append(people, s.User)
		}
		if s.Out == release.Crashed && !slices.Contains(unlucky, s.User) {
			unlucky = append(unlucky, s.User)
		}
		h.Erred += map[bool]int{true: 1}[s.Out == release.Erred]
		h.Crashed += map[bool]int{true: 1}[s.Out == release.Crashed]
		h.Lost += map[bool]int{true: 1}[s.Out == release.Lost]
	}
	if h.All == 0 {
		return h
	}
	h.People = len(people)
	h.Free = 10_000 * (h.All - h.Crashed) / h.All
	h.FreePeople = 10_000 * (len(people) - len(unlucky)) / len(people)
	h.Share = 10_000 * h.All / all
	return h
}

// P6.3: plain readings.
func TestHealthyPlainly(t *testing.T) {
	r := rand.New(rand.NewSource(4))
	for range 5000 {
		var l []release.Session
		var all []string
		for range r.Intn(30) {
			s := release.Session{At: r.Intn(20), Long: r.Intn(9), Release: randomRelease(r)[:1] + "-1." + oneOf(r, "2", "10") + ".0", Out: 1 + r.Intn(4), User: oneOf(r, "a", "b", "c", "d")}
			l, all = append(l, s), append(all, s.Release)
		}
		from := r.Intn(20)
		to := from + r.Intn(20)
		releases, _ := release.Sorted(all)
		var want []release.Health
		for _, in := range releases {
			if h := plainHealth(l, in, from, to); h.All > 0 {
				want = append(want, h)
			}
		}
		if got, e := release.Healthy(l, from, to); !slices.Equal(got, want) || e != api.OK {
			t.Fatalf("%v: %v %v, not %v", l, got, e, want)
		}
	}
}

// P6.3: errors of Healthy, and the most sessions.
func TestHealthyErrors(t *testing.T) {
	for _, c := range badSessions() {
		// Sessions are asked whenever they were, and before the moments are.
		if h, e := release.Healthy([]release.Session{session(func(s *release.Session) {}), c.session, {At: -1}}, 9, 1); len(h) > 0 || e != c.want {
			t.Errorf("%s: %v %v, not %v", c.name, h, e, c.want)
		}
	}
	var l []release.Session
	for i := range release.MaxSessions {
		l = append(l, release.Session{Release: "a-1.0." + strconv.Itoa(i), Out: release.Fine, User: "u"})
	}
	h, e := release.Healthy(l, 0, 0)
	if len(h) != release.MaxSessions || h[1999] != (release.Health{Release: "a-1.0.1999", All: 1, People: 1, Free: 10_000, FreePeople: 10_000, Share: 5}) || e != api.OK {
		t.Error(len(h), e)
	}
	for _, c := range []struct {
		l        []release.Session
		from, to int
		want     api.Errno
	}{
		{append(l, l[0]), 0, 0, api.ErrLarge}, {make([]release.Session, 2001), 1, 0, api.ErrLarge}, {l, 1, 0, api.ErrOrder}, {nil, 0, -1, api.ErrOrder}, {nil, math.MaxInt, math.MinInt, api.ErrOrder}, {nil, 5, 5, api.OK}, {nil, math.MinInt, math.MaxInt, api.OK},
	} {
		if h, e := release.Healthy(c.l, c.from, c.to); len(h) > 0 || e != c.want {
			t.Error(len(c.l), c.from, c.to, h, e)
		}
	}
}
