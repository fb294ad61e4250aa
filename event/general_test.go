package event_test

// The general rules (Z1 to Z12) where the tests of the promises do not ask for them: Z3 and Z4 are asked for with the errors of each function, Z10 with Read, ReadRules and Open.

import (
	"fmt"
	"math"
	"slices"
	"strings"
	"sync"
	"testing"

	"inquest/api"
	"inquest/event"
)

// everything is what all functions return for these arguments.
func everything(a, b api.Event, tags []api.Tag, rules []event.Rule, items []event.Item, limits event.Limits, s string) []string {
	var r []string
	add := func(results ...any) { r = append(r, fmt.Sprintf("%v", results)) }
	add(event.Check(a), event.Same(a, b), event.Sum(s), event.Levels(), event.Matches(s, a.Id), event.Matches(a.Id, s), event.CheckRules(rules))
	text, x := event.Text(a)
	add(text, x)
	e, n, x := event.Read(s)
	add(e, n, x)
	value, is := event.Tag(a, s)
	add(value, is)
	e, x = event.With(a, tags)
	add(e, x)
	e, x = event.Fit(a, limits)
	add(e, x)
	text, x = event.RulesText(rules)
	add(text, x)
	l, n, x := event.ReadRules(s)
	add(l, n, x)
	e, hits, x := event.Clear(a, rules)
	add(e, hits, x)
	text, x = event.Seal(items)
	add(text, x)
	opened, x := event.Open(s)
	add(opened, x)
	line, x := event.Timeline([]api.Event{a, b})
	add(line, x)
	return r
}

// wild is an event in which everything is one of these.
func wild(n int, s string) api.Event {
	frame := api.Frame{Module: s, Func: s, File: s, Line: n, Addr: n}
	return api.Event{
		Id: s, At: n, Level: n, Release: s, User: s, Weight: n,
		Faults: []api.Fault{{Kind: s, Text: s, Frames: []api.Frame{frame, {}}}, {}},
		Tags:   []api.Tag{{Name: s, Value: s}, {}},
		Crumbs: []api.Crumb{{At: n, Kind: s, Text: s}, {}},
	}
}

// Z1 and Z9: every call returns, whatever the numbers and bytes are.
func TestHostile(t *testing.T) {
	texts := []string{
		"", "\x00", "\xff\xfe", "*", "@", "\n", " ", "event ", "event x\nat 1\nlevel note\nweight 1\n", "envelope ", "text ", "tag a literal ",
		word(1_000_001), strings.Repeat("\n", 1_000_000), strings.Repeat(" ", 1_000_000), strings.Repeat("*", 1_000_000), strings.Repeat("@", 1_000_000), strings.Repeat("text all mask\n", 70_000),
		"event x\nat 1\nlevel note\nweight 1\n" + strings.Repeat("tag a \n", 140_000), "event x\nat 1\nlevel note\nweight 1\n" + strings.Repeat("crumb 1 a \n", 90_000) + "faults\n",
		envelope("999", word(999_000)), envelope("999", strings.Repeat("a 0\n\n", 199_000)), "envelope " + strings.Repeat("9", 999_000) + " x\n",
	}
	for _, n := range []int{math.MinInt, -1, 0, 1, 5, 6, math.MaxInt} {
		for i, s := range texts {
			e := wild(n, s)
			rules := []event.Rule{{Where: n, Name: s, Find: n, Least: n, Text: s, Do: n}, {}}
			items := []event.Item{{Kind: s, Body: s}, {Kind: "a", Body: s}, {}}
			limits := event.Limits{Frames: n, Crumbs: n, Tags: n, Text: n}
			if n != 0 && i%5 == 0 {
				everything(e, sample(), e.Tags, rules, items, limits, s)
			}
			everything(sample(), e, e.Tags, rules, items[1:2], limits, s)
		}
	}
	large := api.Event{Id: id, Level: 1, Faults: make([]api.Fault, 100_000), Tags: make([]api.Tag, 100_000), Crumbs: make([]api.Crumb, 100_000)}
	everything(large, large, large.Tags, make([]event.Rule, 100_000), make([]event.Item, 100_000), event.Limits{}, "")
	event.Timeline(make([]api.Event, 100_000))
}

// Z1: rules that make each other's work as large as they can.
func TestHostileRules(t *testing.T) {
	busy := said(strings.Repeat("a@", 1000))
	var l []event.Rule
	for i := range event.MaxRules {
		l = append(l, []event.Rule{
			{Where: event.Texts, Find: event.Literal, Text: "a", Do: event.Digest},
			{Where: event.Texts, Find: event.Digits, Least: 1, Do: event.Digest},
			{Where: event.Texts, Find: event.Literal, Text: "8", Do: event.Digest},
			{Where: event.Texts, Find: event.Mails, Do: event.Mask},
		}[i%4])
	}
	for n := range l {
		if _, _, x := event.Clear(busy, l[n:]); x != api.OK && x != api.ErrLarge {
			t.Error(n, x)
		}
	}
}

// spare returns a list with a full capacity behind its length.
func spare[T any](l []T, behind T) []T {
	r := append(slices.Clone(l), behind, behind, behind)
	return r[:len(l)]
}

// spareEvent is the sample with spare memory behind all its lists.
func spareEvent() api.Event {
	e := sample()
	for i := range e.Faults {
		e.Faults[i].Frames = spare(e.Faults[i].Frames, api.Frame{Func: "behind"})
	}
	e.Faults = spare(e.Faults, api.Fault{Kind: "behind"})
	e.Tags = spare(e.Tags, api.Tag{Name: "behind"})
	e.Crumbs = spare(e.Crumbs, api.Crumb{Kind: "behind"})
	return e
}

// whole is all that is in the memory of an event.
func whole(e api.Event) string {
	s := fmt.Sprint(e, e.Faults[:cap(e.Faults)], e.Tags[:cap(e.Tags)], e.Crumbs[:cap(e.Crumbs)])
	for _, f := range e.Faults {
		s += fmt.Sprint(f.Frames[:cap(f.Frames)])
	}
	return s
}

// Z2: arguments are neither modified nor kept, and what is after a length stays as it is.
func TestArguments(t *testing.T) {
	a := spareEvent()
	tags := spare([]api.Tag{{Name: "z", Value: "1"}, {Name: "a"}, {Name: "os"}}, api.Tag{Name: "behind"})
	rules := spare([]event.Rule{{Where: event.Texts, Find: event.All, Do: event.Blank}, {Where: event.Files, Find: event.Digits, Least: 1, Do: event.Digest}, {Where: event.Crumbs, Name: "*", Find: event.All, Do: event.Mask}, {Where: event.Tags, Name: "*", Find: event.All, Do: event.Mask}}, event.Rule{Do: 9})
	items := spare([]event.Item{{Kind: "a", Body: "b"}, {Kind: "c"}}, event.Item{Kind: "behind"})
	limits := event.Limits{Frames: 1, Crumbs: 2, Tags: 2, Text: 5}
	state := func() string {
		return whole(a) + fmt.Sprint(tags[:cap(tags)], rules[:cap(rules)], items[:cap(items)])
	}
	before := state()
	for _, s := range []string{sampleText, goodText, envelope("1", "a 1\nx\n"), "x"} {
		first := everything(a, sample(), tags, rules, items, limits, s)
		if after := state(); after != before {
			t.Fatalf("%s, not %s", after, before)
		}
		if again := everything(a, sample(), tags, rules, items, limits, s); !slices.Equal(first, again) {
			t.Errorf("%v, then %v", first, again)
		}
	}
}

// spoil changes all that is in the memory of an event.
func spoil(e api.Event) {
	for _, f := range e.Faults[:cap(e.Faults)] {
		clear(f.Frames[:cap(f.Frames)])
	}
	clear(e.Faults[:cap(e.Faults)])
	clear(e.Tags[:cap(e.Tags)])
	clear(e.Crumbs[:cap(e.Crumbs)])
}

// Z2: results are new memory; no two lists of a result share any.
func TestResults(t *testing.T) {
	a := spareEvent()
	before := whole(a)
	shared := a.Faults[0].Frames
	a.Faults[1].Frames = shared // two lists of an argument may share memory
	makers := map[string]func() (api.Event, api.Errno){
		"With":      func() (api.Event, api.Errno) { return event.With(a, []api.Tag{{Name: "z"}}) },
		"With none": func() (api.Event, api.Errno) { return event.With(a, nil) },
		"Fit":       func() (api.Event, api.Errno) { return event.Fit(a, most()) },
		"Fit less": func() (api.Event, api.Errno) {
			return event.Fit(a, event.Limits{Frames: 2, Crumbs: 2, Tags: 2, Text: 9})
		},
		"Clear": func() (api.Event, api.Errno) {
			e, _, x := event.Clear(a, rules(t, "user all mask\n"))
			return e, x
		},
		"Read": func() (api.Event, api.Errno) {
			e, _, x := event.Read(sampleText)
			return e, x
		},
	}
	for name, maker := range makers {
		e, x := maker()
		again, _ := maker()
		if x != api.OK {
			t.Fatal(name, x)
		}
		keep := fmt.Sprint(e.Faults[1], e.Tags, e.Crumbs)
		clear(e.Faults[0].Frames[:cap(e.Faults[0].Frames)])
		if after := fmt.Sprint(e.Faults[1], e.Tags, e.Crumbs); after != keep {
			t.Error(name, "frames share memory")
		}
		spoil(e)
		a.Faults[1].Frames = spareEvent().Faults[1].Frames
		if after := whole(a); after != before {
			t.Fatal(name, "shares memory with its argument")
		}
		a.Faults[1].Frames = shared
		if one, _ := maker(); !event.Same(one, again) {
			t.Error(name, "has other results later")
		}
	}
	l, _ := event.Timeline([]api.Event{a, a})
	clear(l[:cap(l)])
	a.Faults[1].Frames = spareEvent().Faults[1].Frames
	if whole(a) != before {
		t.Error("Timeline shares memory with its argument")
	}
}

// Z3 and Z8: what is not told has its zero value.
func TestZeroValues(t *testing.T) {
	s := "event " + id + "\nat 5\nlevel error\nweight 1\nfaults\nOops:\n"
	e, n, x := event.Read(s)
	if e.Release != "" || e.User != "" || len(e.Tags)+len(e.Crumbs)+len(e.Faults[0].Frames) > 0 || n != 0 || x != api.OK {
		t.Error(e, n, x)
	}
	l, n, x := event.ReadRules("text all mask\n")
	if !slices.Equal(l, []event.Rule{{Where: event.Texts, Find: event.All, Do: event.Mask}}) || n != 0 || x != api.OK {
		t.Error(l, n, x)
	}
}

// Z5: empty and nil lists are the same, in arguments and in results.
func TestEmpty(t *testing.T) {
	empty := simple()
	empty.Faults[0].Frames, empty.Tags, empty.Crumbs = []api.Frame{}, []api.Tag{}, []api.Crumb{}
	want := everything(simple(), simple(), nil, nil, nil, most(), "")
	if got := everything(empty, simple(), []api.Tag{}, []event.Rule{}, []event.Item{}, most(), ""); !slices.Equal(got, want) {
		t.Errorf("%v, not %v", got, want)
	}
	none := api.Event{Id: id, Level: 1, Faults: []api.Fault{}}
	if x := event.Check(none); x != api.ErrNone {
		t.Error(x)
	}
	if l, x := event.Timeline([]api.Event{}); len(l) > 0 || x != api.OK {
		t.Error(l, x)
	}
}

// Z7: goroutines get the same results, however the maps lie.
func TestTogether(t *testing.T) {
	limits := event.Limits{Frames: 1, Crumbs: 2, Tags: 2, Text: 5}
	l, a, b, items := rules(t, goodText), sample(), largest(), items(3, 3)
	want := everything(a, b, tags(37), l, items, limits, sampleText)
	var group sync.WaitGroup
	for range 8 {
		group.Go(func() {
			for range 20 {
				if got := everything(a, b, tags(37), l, items, limits, sampleText); !slices.Equal(got, want) {
					t.Error("other results")
				}
			}
		})
	}
	group.Wait()
}
