package event_test

import (
	"math/rand"
	"slices"
	"testing"

	"inquest/api"
	"inquest/event"
)

// at is an event at a moment, whose first fault has a kind, with crumbs.
func at(moment int, kind string, crumbs ...api.Crumb) api.Event {
	e := simple()
	e.At, e.Crumbs = moment, crumbs
	e.Faults = []api.Fault{{Kind: kind, Text: "x"}, {Kind: "Cause"}}
	return e
}

// P4.8
func TestTimeline(t *testing.T) {
	crumb := func(at int, kind, text string) api.Crumb { return api.Crumb{At: at, Kind: kind, Text: text} }
	for i, c := range []struct {
		events []api.Event
		want   []api.Crumb
	}{
		{nil, nil},
		{[]api.Event{at(0, "K")}, []api.Crumb{crumb(0, "event", "K")}},
		{[]api.Event{at(5, "K", crumb(4, "a", "1"), crumb(5, "a", "2"), crumb(6, "a", "3"))}, []api.Crumb{crumb(4, "a", "1"), crumb(5, "a", "2"), crumb(5, "event", "K"), crumb(6, "a", "3")}},
		{
			[]api.Event{at(5, "K", crumb(5, "z", "2"), crumb(5, "a", "1")), at(5, "A", crumb(5, "b", ""), crumb(9, "event", "x")), at(4, "L", crumb(api.MaxMoment, "a", ""))},
			[]api.Crumb{crumb(4, "event", "L"), crumb(5, "z", "2"), crumb(5, "a", "1"), crumb(5, "event", "K"), crumb(5, "b", ""), crumb(5, "event", "A"), crumb(9, "event", "x"), crumb(api.MaxMoment, "a", "")},
		},
		{[]api.Event{at(1, "K"), at(1, "K")}, []api.Crumb{crumb(1, "event", "K"), crumb(1, "event", "K")}},
	} {
		if l, x := event.Timeline(c.events); !slices.Equal(l, c.want) || x != api.OK {
			t.Errorf("%d: %v %v", i, l, x)
		}
	}
}

// P4.8: a plain reading, in which each crumb goes behind the last one that is not later.
func TestTimelinePlainly(t *testing.T) {
	r := rand.New(rand.NewSource(9))
	for range 2000 {
		var l []api.Event
		var want []api.Crumb
		add := func(c api.Crumb) {
			i := len(want)
			for i > 0 && want[i-1].At > c.At {
				i--
			}
			want = slices.Insert(want, i, c)
		}
		for range r.Intn(12) {
			e := randomEvent(r)
			l = append(l, e)
			for _, c := range e.Crumbs {
				add(c)
			}
			add(api.Crumb{At: e.At, Kind: "event", Text: e.Faults[0].Kind})
		}
		if got, x := event.Timeline(l); !slices.Equal(got, want) || x != api.OK {
			t.Fatalf("%v: %v, not %v %v", l, got, want, x)
		}
	}
}

// P4.8: the limit, behind the errors of events (P4.1).
func TestTimelineLimit(t *testing.T) {
	l := slices.Repeat([]api.Event{at(7, "K", crumbs(50)...)}, 2000)
	if got, x := event.Timeline(l); len(got) != 2000*51 || x != api.OK {
		t.Error(len(got), x)
	}
	l = append(l, simple())
	if got, x := event.Timeline(l); len(got) > 0 || x != api.ErrLarge {
		t.Error(len(got), x)
	}
	l = append(l, api.Event{})
	if got, x := event.Timeline(l); len(got) > 0 || x != api.ErrForm {
		t.Error(len(got), x)
	}
}
