package event_test

import (
	"math"
	"slices"
	"strings"
	"testing"

	"inquest/api"
	"inquest/event"
)

// P4.1
func TestCheckGood(t *testing.T) {
	least := simple()
	least.At, least.Level = 0, 1
	good := []api.Event{
		least, sample(), largest(),
		with(func(e *api.Event) { e.Release, e.User, e.Tags, e.Crumbs = "", "", nil, nil }),
		with(func(e *api.Event) {
			e.Tags = []api.Tag{{Name: "a"}, {Name: "a-"}, {Name: "a."}, {Name: "a0"}, {Name: "aa"}, {Name: "b"}}
		}),
		with(func(e *api.Event) { e.Crumbs[0].At, e.Crumbs[1].At = 0, 0 }),
	}
	for _, e := range good {
		if x := event.Check(e); x != api.OK {
			t.Errorf("%.200v: %v", e, x)
		}
	}
}

// P4.1: each error, and which comes first of several.
func TestCheckBad(t *testing.T) {
	bad := []struct {
		change func(e *api.Event)
		want   api.Errno
	}{
		{func(e *api.Event) { e.Id = id[1:] }, api.ErrForm},
		{func(e *api.Event) { e.Id = id + "0" }, api.ErrForm},
		{func(e *api.Event) { e.At = api.MaxMoment + 1 }, api.ErrRange},
		{func(e *api.Event) { e.At = math.MinInt }, api.ErrRange},
		{func(e *api.Event) { e.Level = 0 }, api.ErrRange},
		{func(e *api.Event) { e.Level = 6 }, api.ErrRange},
		{func(e *api.Event) { e.Faults = slices.Repeat(e.Faults, 4) }, api.ErrLarge},
		{func(e *api.Event) { e.Faults[2].Text = "\n" }, api.ErrByte},
		{func(e *api.Event) { e.Faults[1].Frames[2].Func = "" }, api.ErrForm},
		{func(e *api.Event) { e.Tags[2].Name = "" }, api.ErrName},
		{func(e *api.Event) { e.Tags[2].Name = word(41) }, api.ErrName},
		{func(e *api.Event) { e.Tags[1].Name = e.Tags[0].Name }, api.ErrOrder},
		{func(e *api.Event) { e.Tags[2].Value = word(201) }, api.ErrLarge},
		{func(e *api.Event) { e.Tags[2].Value = "\t" }, api.ErrByte},
		{func(e *api.Event) { e.Crumbs = crumbs(51) }, api.ErrLarge},
		{func(e *api.Event) { e.Crumbs[0].At = -1 }, api.ErrRange},
		{func(e *api.Event) { e.Crumbs[2].At = api.MaxMoment + 1 }, api.ErrRange},
		{func(e *api.Event) { e.Crumbs[1].At = 2 }, api.ErrOrder},
		{func(e *api.Event) { e.Crumbs[1].Kind = "" }, api.ErrName},
		{func(e *api.Event) { e.Crumbs[1].Text = word(2001) }, api.ErrLarge},
		{func(e *api.Event) { e.Crumbs[1].Text = "\x7f" }, api.ErrByte},
		{func(e *api.Event) { e.Release = word(41) }, api.ErrName},
		{func(e *api.Event) { e.User = word(201) }, api.ErrLarge},
		{func(e *api.Event) { e.User = "\xc3\xa9" }, api.ErrByte},
		{func(e *api.Event) { e.Weight = -1 }, api.ErrRange},
		{func(e *api.Event) { e.Weight = 1_000_001 }, api.ErrRange},
		// The order of several errors.
		{func(e *api.Event) { e.Id, e.At, e.Level = "x", -1, 0 }, api.ErrForm},
		{func(e *api.Event) { e.At, e.Faults = -1, nil }, api.ErrRange},
		{func(e *api.Event) { e.Faults, e.Tags = nil, tags(41) }, api.ErrNone},
		{func(e *api.Event) { e.Tags = tags(41); e.Tags[0].Name = "" }, api.ErrLarge},
		{func(e *api.Event) { e.Tags[0].Value, e.Tags[1].Name = "\n", "A" }, api.ErrByte},
		{func(e *api.Event) { e.Tags[1] = api.Tag{Name: "A", Value: word(201)} }, api.ErrName},
		{func(e *api.Event) { e.Tags[1] = api.Tag{Name: "a", Value: word(201)} }, api.ErrOrder},
		{func(e *api.Event) { e.Tags[1].Value = "\n" + word(200) }, api.ErrLarge},
		{func(e *api.Event) { e.Tags[2].Value, e.Crumbs = "\n", crumbs(51) }, api.ErrByte},
		{func(e *api.Event) { e.Crumbs = crumbs(51); e.Crumbs[0].At = -1 }, api.ErrLarge},
		{func(e *api.Event) { e.Crumbs[1] = api.Crumb{At: -1} }, api.ErrRange},
		{func(e *api.Event) { e.Crumbs[1] = api.Crumb{At: 0} }, api.ErrOrder},
		{func(e *api.Event) { e.Crumbs[1] = api.Crumb{At: 3, Text: word(2001)} }, api.ErrName},
		{func(e *api.Event) { e.Crumbs[1].Text = "\n" + word(2000) }, api.ErrLarge},
		{func(e *api.Event) { e.Crumbs[0].Text, e.Crumbs[1].At = "\n", -1 }, api.ErrByte},
		{func(e *api.Event) { e.Crumbs[2].Text, e.Release = "\n", "A" }, api.ErrByte},
		{func(e *api.Event) { e.Release, e.User = "A", word(201) }, api.ErrName},
		{func(e *api.Event) { e.User, e.Weight = "\n"+word(200), 0 }, api.ErrLarge},
		{func(e *api.Event) { e.User, e.Weight = "\n", 0 }, api.ErrByte},
	}
	for i, c := range bad {
		if x := event.Check(with(c.change)); x != c.want {
			t.Errorf("%d: %v, not %v", i, x, c.want)
		}
	}
	for _, c := range badEvents() {
		if x := event.Check(c.event); x != c.want {
			t.Errorf("%s: %v, not %v", c.name, x, c.want)
		}
	}
}

// P4.1: each byte in each string.
func TestBytes(t *testing.T) {
	check := func(what string, right bool, wrong api.Errno, change func(e *api.Event)) {
		t.Helper()
		want := api.OK
		if !right {
			want = wrong
		}
		if x := event.Check(with(change)); x != want {
			t.Errorf("%s: %v, not %v", what, x, want)
		}
	}
	for n := range 256 {
		s := string([]byte{byte(n)})
		small, digit := n >= 'a' && n <= 'z', n >= '0' && n <= '9'
		inName := small || digit || n == '-' || n == '.' || n == '_'
		for _, end := range []string{"", "x"} {
			check("first of a tag "+s, small, api.ErrName, func(e *api.Event) { e.Tags = []api.Tag{{Name: s + end}} })
			check("first of a kind "+s, small, api.ErrName, func(e *api.Event) { e.Crumbs[0].Kind = s + end })
			check("first of a release "+s, small, api.ErrName, func(e *api.Event) { e.Release = s + end })
			check("tag "+s, inName, api.ErrName, func(e *api.Event) { e.Tags = []api.Tag{{Name: "a" + s + end}} })
			check("kind "+s, inName, api.ErrName, func(e *api.Event) { e.Crumbs[0].Kind = "a" + s + end })
			check("release "+s, inName, api.ErrName, func(e *api.Event) { e.Release = "a" + s + end })
			check("value "+s, n >= 32 && n <= 126, api.ErrByte, func(e *api.Event) { e.Tags[1].Value = s + end })
			check("user "+s, n >= 32 && n <= 126, api.ErrByte, func(e *api.Event) { e.User = end + s })
			check("text "+s, n >= 32 && n != 127, api.ErrByte, func(e *api.Event) { e.Crumbs[1].Text = end + s })
		}
		check("id "+s, digit || n >= 'a' && n <= 'f', api.ErrForm, func(e *api.Event) { e.Id = id[:8] + s + id[9:] })
	}
}

// P4.1: functions with events first return the error of Check, whatever is wrong besides.
func TestEventErrors(t *testing.T) {
	wrongTags := []api.Tag{{Name: "?"}}
	wrongRules := []event.Rule{{}}
	for _, c := range badEvents() {
		if s, x := event.Text(c.event); s != "" || x != c.want {
			t.Errorf("%s: Text: %q %v", c.name, s, x)
		}
		if e, x := event.With(c.event, wrongTags); !zero(e) || x != c.want {
			t.Errorf("%s: With: %v %v", c.name, e, x)
		}
		if e, x := event.Fit(c.event, event.Limits{}); !zero(e) || x != c.want {
			t.Errorf("%s: Fit: %v %v", c.name, e, x)
		}
		if e, hits, x := event.Clear(c.event, wrongRules); !zero(e) || len(hits) > 0 || x != c.want {
			t.Errorf("%s: Clear: %v %v %v", c.name, e, hits, x)
		}
		if l, x := event.Timeline([]api.Event{sample(), c.event, {}}); len(l) > 0 || x != c.want {
			t.Errorf("%s: Timeline: %v %v", c.name, l, x)
		}
	}
}

// P4.1
func TestSame(t *testing.T) {
	changes := []func(e *api.Event){
		func(e *api.Event) { e.Id = "" },
		func(e *api.Event) { e.At++ },
		func(e *api.Event) { e.Level++ },
		func(e *api.Event) { e.Faults[1].Kind = "x" },
		func(e *api.Event) { e.Faults[1].Text = "x" },
		func(e *api.Event) { e.Faults = e.Faults[:2] },
		func(e *api.Event) { e.Faults[1].Frames = e.Faults[1].Frames[:1] },
		func(e *api.Event) { e.Faults[1].Frames[1].Own = false },
		func(e *api.Event) { e.Tags = e.Tags[1:] },
		func(e *api.Event) { e.Tags[1].Name = "x" },
		func(e *api.Event) { e.Tags[1].Value = "x" },
		func(e *api.Event) { e.Crumbs = nil },
		func(e *api.Event) { e.Crumbs[1].At++ },
		func(e *api.Event) { e.Crumbs[1].Kind = "x" },
		func(e *api.Event) { e.Crumbs[1].Text = "x" },
		func(e *api.Event) { e.Release = "" },
		func(e *api.Event) { e.User = "" },
		func(e *api.Event) { e.Weight = 0 },
	}
	if !event.Same(sample(), sample()) || !event.Same(api.Event{}, api.Event{Faults: []api.Fault{}, Tags: []api.Tag{}, Crumbs: []api.Crumb{}}) {
		t.Error("equal events are not the same")
	}
	for i, change := range changes {
		if event.Same(sample(), with(change)) || event.Same(with(change), sample()) || !event.Same(with(change), with(change)) {
			t.Error(i)
		}
	}
}

// P4.1: the first tag of a name counts, right or not.
func TestTag(t *testing.T) {
	e := api.Event{Tags: []api.Tag{{Name: "b", Value: "1"}, {Name: "", Value: "2"}, {Name: "b", Value: "3"}, {Name: "A"}}}
	for _, c := range []struct {
		name, value string
		is          bool
	}{{"b", "1", true}, {"", "2", true}, {"A", "", true}, {"a", "", false}, {"bb", "", false}} {
		if v, is := event.Tag(e, c.name); v != c.value || is != c.is {
			t.Errorf("%q: %q %v", c.name, v, is)
		}
	}
	if v, is := event.Tag(api.Event{}, ""); v != "" || is {
		t.Error(v, is)
	}
}

// P4.1
func TestLevels(t *testing.T) {
	for range 2 {
		l := event.Levels()
		if s := strings.Join(l, " "); s != "debug note warning error fatal" {
			t.Error(s)
		}
		clear(l)
	}
}
