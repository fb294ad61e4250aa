package event_test

import (
	"math/rand"
	"slices"
	"strings"

	"inquest/api"
	"inquest/event"
)

const id = "0123456789abcdef"

// word is a string of so many bytes.
func word(n int) string { return strings.Repeat("w", n) }

// simple is an event of one fault, with no more than it needs.
func simple() api.Event {
	return api.Event{Id: id, At: 5, Level: 4, Weight: 1, Faults: []api.Fault{{Kind: "Oops"}}}
}

// sample is an event that has something everywhere.
func sample() api.Event {
	main := api.Frame{Module: "app", Func: "main", File: "main.go", Line: 3, Addr: -1, Own: true}
	start := api.Frame{Func: "start", File: "rt0123.s", Addr: 31}
	return api.Event{
		Id: id, At: 99, Level: 3, Weight: 20, Release: "app-1.0.0", User: "ann b <ann@x.org>",
		Faults: []api.Fault{
			{Kind: "Oops", Text: "card 12345 of \xc3\xa9: a.b@c.d", Frames: []api.Frame{{Func: "f", Addr: -1}, main, start}},
			{Kind: "Low", Text: "0xcafe1", Frames: []api.Frame{{Func: "g", File: "g.go", Addr: 0}, main, start}},
			{Kind: "None"},
		},
		Tags:   []api.Tag{{Name: "host", Value: ""}, {Name: "os", Value: "linux 6"}, {Name: "user-a", Value: "a@b 1234"}},
		Crumbs: []api.Crumb{{At: 3, Kind: "net", Text: "get /12 \xff"}, {At: 3, Kind: "ui"}, {At: api.MaxMoment, Kind: "net", Text: " 77 "}},
	}
}

// with is the sample with a change.
func with(change func(e *api.Event)) api.Event {
	e := sample()
	change(&e)
	return e
}

// said is an event whose fault has a Text.
func said(text string) api.Event {
	e := simple()
	e.Faults[0].Text = text
	return e
}

// zero tells whether nothing is in an event.
func zero(e api.Event) bool { return event.Same(e, api.Event{}) }

// tags are so many tags, in order.
func tags(n int) (l []api.Tag) {
	for i := range n {
		l = append(l, api.Tag{Name: "t" + string(rune('a'+i/26)) + string(rune('a'+i%26))})
	}
	return l
}

// crumbs are so many crumbs, from moment 0 on.
func crumbs(n int) (l []api.Crumb) {
	for i := range n {
		l = append(l, api.Crumb{At: i, Kind: "k", Text: "abcdefg"})
	}
	return l
}

// largest is an event that has as much as there may be of everything.
func largest() api.Event {
	frame := api.Frame{Module: word(200), Func: word(200), File: word(200), Line: api.MaxLine, Addr: api.MaxAddr, Own: true}
	fault := api.Fault{Kind: word(200), Text: word(2000), Frames: slices.Repeat([]api.Frame{frame}, 200)}
	e := api.Event{Id: id, At: api.MaxMoment, Level: 5, Weight: 1_000_000, Release: word(40), User: word(200), Tags: tags(40), Crumbs: crumbs(50)}
	for i := range e.Tags {
		e.Tags[i].Name += word(37)
		e.Tags[i].Value = word(200)
	}
	for i := range e.Crumbs {
		e.Crumbs[i] = api.Crumb{At: api.MaxMoment, Kind: word(40), Text: word(2000)}
	}
	e.Faults = slices.Repeat([]api.Fault{fault}, 10)
	return e
}

// badEvent is an event with an error.
type badEvent struct {
	name  string
	event api.Event
	want  api.Errno
}

// badEvents has an event or more for each kind of error of Check.
func badEvents() []badEvent {
	return []badEvent{
		{"id", with(func(e *api.Event) { e.Id = "" }), api.ErrForm},
		{"at", with(func(e *api.Event) { e.At = -1 }), api.ErrRange},
		{"no faults", with(func(e *api.Event) { e.Faults = nil }), api.ErrNone},
		{"fault", with(func(e *api.Event) { e.Faults[1].Kind = ":" }), api.ErrByte},
		{"tags", with(func(e *api.Event) { e.Tags = tags(41) }), api.ErrLarge},
		{"tag", with(func(e *api.Event) { e.Tags[0].Name = "A" }), api.ErrName},
		{"order", with(func(e *api.Event) { e.Tags[1].Name = "a" }), api.ErrOrder},
		{"crumb", with(func(e *api.Event) { e.Crumbs[0].Text = "\n" }), api.ErrByte},
		{"release", with(func(e *api.Event) { e.Release = "1" }), api.ErrName},
		{"user", with(func(e *api.Event) { e.User = word(201) }), api.ErrLarge},
		{"weight", with(func(e *api.Event) { e.Weight = 0 }), api.ErrRange},
	}
}

// randomFrom is a string of so many bytes at most, of these.
func randomFrom(r *rand.Rand, bytes string, most int) string {
	var b strings.Builder
	for range r.Intn(most + 1) {
		b.WriteByte(bytes[r.Intn(len(bytes))])
	}
	return b.String()
}

// randomEvent is a small event without errors.
func randomEvent(r *rand.Rand) api.Event {
	text := func() string { return randomFrom(r, "aab.-_@@ Z1209fg*\xc3", 25) }
	value := func() string { return randomFrom(r, "aab.-_@@ Z1209fg*~", 60) }
	e := api.Event{Id: id, At: r.Intn(100), Level: 1 + r.Intn(5), Weight: 1 + r.Intn(1_000_000), Faults: []api.Fault{{Kind: "K", Text: text()}}}
	if r.Intn(2) == 0 {
		e.Release = "r" + randomFrom(r, "a0.-_", 5)
	}
	e.User = value()
	for range r.Intn(3) {
		e.Faults = append(e.Faults, api.Fault{Kind: "x" + randomFrom(r, "!()a", 3), Text: text()})
	}
	for i := range e.Faults {
		for range r.Intn(4) {
			e.Faults[i].Frames = append(e.Faults[i].Frames, api.Frame{Func: "f", File: "f" + randomFrom(r, "a12@.-c", 40), Line: r.Intn(3), Addr: r.Intn(3) - 1})
		}
	}
	for _, name := range []string{"a", "ab", "b.c", "user-a"} {
		if r.Intn(2) == 0 {
			e.Tags = append(e.Tags, api.Tag{Name: name, Value: value()})
		}
	}
	at := 0
	for range r.Intn(4) {
		at += r.Intn(3) * 40
		e.Crumbs = append(e.Crumbs, api.Crumb{At: at, Kind: "k" + randomFrom(r, "ab", 1), Text: text()})
	}
	return e
}
