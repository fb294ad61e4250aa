package event_test

import (
	"fmt"
	"math"
	"slices"
	"strings"
	"testing"

	"inquest/api"
	"inquest/event"
)

// P4.3
func TestWith(t *testing.T) {
	for _, c := range []struct {
		tags []api.Tag
		want string
	}{
		{nil, "host= os=linux 6 user-a=a@b 1234"},
		{[]api.Tag{{Name: "os", Value: "b"}}, "host= os=b user-a=a@b 1234"},
		{[]api.Tag{{Name: "z"}, {Name: "a", Value: "1"}, {Name: "host", Value: "x"}}, "a=1 host=x os=linux 6 user-a=a@b 1234 z="},
		{[]api.Tag{{Name: "user-a"}, {Name: "user", Value: word(200)}}, "host= os=linux 6 user=" + word(200) + " user-a="},
	} {
		e, x := event.With(sample(), c.tags)
		var l []string
		for _, tag := range e.Tags {
			l = append(l, tag.Name+"="+tag.Value)
		}
		if got := strings.Join(l, " "); got != c.want || x != api.OK || event.Check(e) != api.OK {
			t.Errorf("%v: %q %v", c.tags, got, x)
		}
		e.Tags = sample().Tags
		if !event.Same(e, sample()) {
			t.Errorf("%v: more than tags is another", c.tags)
		}
	}
	full := with(func(e *api.Event) { e.Tags = tags(40) })
	if e, x := event.With(full, tags(40)); !event.Same(e, full) || x != api.OK {
		t.Error(e, x)
	}
	if e, x := event.With(simple(), tags(40)); len(e.Tags) != 40 || x != api.OK {
		t.Error(e, x)
	}
}

// P4.3
func TestWithErrors(t *testing.T) {
	full := with(func(e *api.Event) { e.Tags = tags(40) })
	for i, c := range []struct {
		event api.Event
		tags  []api.Tag
		want  api.Errno
	}{
		{sample(), []api.Tag{{Name: ""}}, api.ErrName},
		{sample(), []api.Tag{{Name: "a"}, {Name: word(41)}}, api.ErrName},
		{sample(), []api.Tag{{Name: "a", Value: word(201)}}, api.ErrLarge},
		{sample(), []api.Tag{{Name: "a", Value: "\xc3"}}, api.ErrByte},
		{sample(), []api.Tag{{Name: "a"}, {Name: "b"}, {Name: "a"}}, api.ErrTwice},
		{full, []api.Tag{{Name: "a"}}, api.ErrLarge},
		{simple(), tags(41), api.ErrLarge},
		// The order of several errors.
		{sample(), []api.Tag{{Name: "A", Value: "\n" + word(200)}}, api.ErrName},
		{sample(), []api.Tag{{Name: "a", Value: "\n" + word(200)}}, api.ErrLarge},
		{sample(), []api.Tag{{Name: "a"}, {Name: "a", Value: "\n"}}, api.ErrByte},
		{sample(), []api.Tag{{Name: "a"}, {Name: "a"}, {Name: "A"}}, api.ErrTwice},
		{sample(), []api.Tag{{Name: "A"}, {Name: "a"}, {Name: "a"}}, api.ErrName},
		{simple(), append(tags(41), api.Tag{Name: "A"}), api.ErrName},
		{simple(), append(tags(41), tags(1)...), api.ErrTwice},
	} {
		if e, x := event.With(c.event, c.tags); !zero(e) || x != c.want {
			t.Errorf("%d: %v %v, not %v", i, e, x, c.want)
		}
	}
}

// most are limits that leave every event as it is.
func most() event.Limits {
	return event.Limits{Frames: api.MaxFrames, Crumbs: api.MaxCrumbs, Tags: api.MaxTags, Text: api.MaxSay}
}

// P4.3: how texts are cut.
func TestFitText(t *testing.T) {
	for _, c := range []struct {
		text, want string
		most       int
	}{
		{"abcdefg", "ab...", 5}, {"abcdefg", "abcdefg", 7}, {"abcdefg", "abcdefg", 8}, {"abcdefg", "abc...", 6},
		{"abcdefg", "a...", 4}, {"abcdefg", "...", 3}, {"abcdefg", "..", 2}, {"abcdefg", ".", 1},
		{"ab", "ab", 2}, {"a", "a", 1}, {"", "", 1}, {"\xc3\xa9\xc3\xa9", "\xc3\xa9\xc3\xa9", 4}, {"\xc3\xa9\xc3\xa9x", "\xc3...", 4},
		{word(2000), word(2000), 2000}, {word(2000), word(1996) + "...", 1999},
	} {
		e := said(c.text)
		e.Crumbs = []api.Crumb{{Kind: "k", Text: c.text}, {Kind: "k", Text: "a"}}
		l := most()
		l.Text = c.most
		want := said(c.want)
		want.Crumbs = []api.Crumb{{Kind: "k", Text: c.want}, {Kind: "k", Text: "a"}}
		if f, x := event.Fit(e, l); !event.Same(f, want) || x != api.OK {
			t.Errorf("%.20q %d: %v %v", c.text, c.most, f, x)
		}
	}
}

// P4.3: which frames, tags and crumbs stay.
func TestFitLists(t *testing.T) {
	var frames []api.Frame
	for i := range 9 {
		frames = append(frames, api.Frame{Func: "f", Addr: i})
	}
	e := simple()
	e.Faults = []api.Fault{{Kind: "A", Frames: frames}, {Kind: "B"}, {Kind: "C", Frames: frames[:3]}}
	e.Tags, e.Crumbs, e.User, e.Release = tags(7), crumbs(6), word(200), word(40)
	for n := 1; n < 12; n++ {
		l := event.Limits{Frames: n, Crumbs: n - 1, Tags: n - 1, Text: 2000}
		want := e
		want.Faults = slices.Clone(e.Faults)
		if n < 9 {
			want.Faults[0].Frames = slices.Concat(frames[:(n+1)/2], frames[9-n/2:])
		}
		if n < 3 {
			want.Faults[2].Frames = slices.Concat(frames[:(n+1)/2], frames[3-n/2:3])
		}
		want.Tags = e.Tags[:min(n-1, 7)]
		want.Crumbs = e.Crumbs[6-min(n-1, 6):]
		if f, x := event.Fit(e, l); !event.Same(f, want) || x != api.OK {
			t.Errorf("%d: %v, not %v %v", n, f, want, x)
		}
	}
	for _, e := range []api.Event{simple(), sample(), largest()} {
		if f, x := event.Fit(e, most()); !event.Same(f, e) || x != api.OK {
			t.Error(x)
		}
		if f, x := event.Fit(e, event.Limits{Frames: 1, Text: 1}); len(f.Tags)+len(f.Crumbs) > 0 || len(f.Faults) != len(e.Faults) || event.Check(f) != api.OK || x != api.OK {
			t.Error(f, x)
		}
	}
}

// P4.3
func TestFitErrors(t *testing.T) {
	for _, c := range []struct{ frames, crumbs, tags, text int }{
		{0, 0, 0, 1}, {201, 0, 0, 1}, {-1, 0, 0, 1}, {math.MaxInt, 0, 0, 1},
		{1, -1, 0, 1}, {1, 51, 0, 1}, {1, math.MinInt, 0, 1},
		{1, 0, -1, 1}, {1, 0, 41, 1},
		{1, 0, 0, 0}, {1, 0, 0, 2001}, {1, 0, 0, -3}, {1, 0, 0, math.MaxInt},
	} {
		if e, x := event.Fit(sample(), event.Limits{Frames: c.frames, Crumbs: c.crumbs, Tags: c.tags, Text: c.text}); !zero(e) || x != api.ErrRange {
			t.Error(fmt.Sprint(c), e, x)
		}
	}
}
