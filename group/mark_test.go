package group_test

import (
	"fmt"
	"math/rand"
	"slices"
	"strconv"
	"strings"
	"testing"

	"inquest/api"
	"inquest/group"
)

// seen tells of each frame its Func, + if it is Own, and ! if it is Shown; faults are divided by |.
func seen(l [][]group.Marked) string {
	var faults []string
	for _, marks := range l {
		var frames []string
		for _, m := range marks {
			s := m.Frame.Func
			if m.Own {
				s += "+"
			}
			if m.Shown {
				s += "!"
			}
			frames = append(frames, s)
		}
		faults = append(faults, strings.Join(frames, " "))
	}
	return strings.Join(faults, "|")
}

// P5.4, with the faults of sample.
func TestMark(t *testing.T) {
	for _, c := range []struct{ rules, want, key string }{
		{"", "f g+! h+! i|f! bare!|", ""},
		// what is Own
		{"func:\"f\" -> own\n", "f+! g+! h+! i|f+! bare|", ""},
		{"own -> -own\n", "f! g! h! i!|f! bare!|", ""},
		{"func:\"g\" -> -own\n", "f g h+! i|f! bare!|", ""},
		{"-> own\n", "f+! g+! h+! i+!|f+! bare+!|", ""},
		{"-> own -own\n", "f! g! h! i!|f! bare!|", ""},
		{"-> -own own\n", "f+! g+! h+! i+!|f+! bare+!|", ""},
		{"!own -> own\n", "f+! g+! h+! i+!|f+! bare+!|", ""},
		// what a rule asks is found before it does anything
		{"own -> -own hide\n", "f! g h i!|f! bare!|", ""},
		{"!own -> own hide\n", "f+ g+! h+! i+|f+ bare+|", ""},
		// and rules come one after the other
		{"func:\"f\" -> own\nown -> hide\n", "f+ g+ h+ i|f+ bare|", ""},
		{"own -> hide\nfunc:\"f\" -> own\n", "f+! g+ h+ i|f+! bare|", ""},
		{"own -> -own\nown -> key=\"a\"\n", "f! g! h! i!|f! bare!|", ""},
		// what is Shown
		{"func:\"g\" -> hide\n", "f g+ h+! i|f! bare!|", ""},
		{"own -> hide\n", "f g+ h+ i|f! bare!|", ""},
		{"func:\"f\" -> show\n", "f! g+! h+! i|f! bare!|", ""},
		{"-> hide\n", "f g+ h+ i|f bare|", ""},
		{"-> show\n", "f! g+! h+! i!|f! bare!|", ""},
		{"-> hide\nfunc:\"f\" -> show\n", "f! g+ h+ i|f! bare|", ""},
		{"-> show\nfunc:\"f\" -> hide\n", "f g+! h+! i!|f bare!|", ""},
		{"func:\"f\" -> hide show\n", "f! g+! h+! i|f! bare!|", ""},
		{"func:\"f\" -> show hide\n", "f g+! h+! i|f bare!|", ""},
		{"module:\"lib\" -> own hide\n", "f+ g+! h+! i+|f+ bare|", ""},
		// what rules ask for
		{"func:\"?\" -> own\n", "f+! g+! h+! i+!|f+! bare|", ""},
		{"!func:\"?\" -> own\n", "f g+! h+! i|f bare+!|", ""},
		{"module:\"\" -> own\n", "f g+! h+! i|f bare+!|", ""},
		{"file:\"*.go\" -> -own\n", "f! g! h! i!|f! bare!|", ""},
		{"file:\"g*\" -> hide\n", "f g+ h+! i|f! bare!|", ""},
		{"!file:\"?*\" -> own\n", "f+! g+! h+! i+!|f+! bare+!|", ""},
		{"kind:\"Low\" -> own\n", "f g+! h+! i|f+! bare+!|", ""},
		{"!kind:\"Low\" -> own\n", "f+! g+! h+! i+!|f! bare!|", ""},
		{"say:\"no *\" -> show\n", "f! g+! h+! i!|f! bare!|", ""},
		{"say:\"\" -> hide\n", "f g+! h+! i|f bare|", ""},
		{"say:\"no\" -> hide\n", "f g+! h+! i|f! bare!|", ""},
		{"kind:\"Oops\" module:\"lib\" -> own\n", "f+! g+! h+! i+!|f! bare!|", ""},
		{"kind:\"Low\" module:\"app\" -> own\n", "f g+! h+! i|f! bare!|", ""},
		{"module:\"lib\" func:\"f\" !say:\"*12\" -> hide\n", "f g+! h+! i|f bare!|", ""},
		// how many stay Shown
		{"-> most=1\n", "f g+! h+ i|f! bare|", ""},
		{"-> most=2\n", "f g+! h+! i|f! bare!|", ""},
		{"-> show most=3\n", "f! g+! h+! i|f! bare!|", ""},
		{"-> most=1 most=200\n", "f g+! h+! i|f! bare!|", ""},
		{"-> most=200\n-> most=1\n", "f g+! h+ i|f! bare|", ""},
		{"func:\"bare\" -> most=1\n", "f g+! h+ i|f! bare|", ""},
		{"func:\"bare\" -> show\n-> most=1\n", "f g+! h+ i|f! bare|", ""},
		{"func:\"x\" -> most=1\n", "f g+! h+! i|f! bare!|", ""},
		{"kind:\"None\" -> most=1\n", "f g+! h+ i|f! bare|", ""},
		{"kind:\"None\" func:\"*\" -> most=1\n", "f g+! h+! i|f! bare!|", ""},
		{"kind:\"None\" !own -> most=1\n", "f g+! h+! i|f! bare!|", ""},
		{"-> most=1\nfunc:\"x\" -> most=2\n", "f g+! h+ i|f! bare|", ""},
		// the key
		{"-> key=\"a\"\n", "f g+! h+! i|f! bare!|", "a"},
		{"-> key=\"a\" key=\"b\"\n", "f g+! h+! i|f! bare!|", "b"},
		{"-> key=\"a\"\nkind:\"x\" -> key=\"b\"\n", "f g+! h+! i|f! bare!|", "a"},
		{"-> key=\"a\"\nkind:\"None\" -> key=\"b\"\n", "f g+! h+! i|f! bare!|", "b"},
		{"kind:\"None\" say:\"*fe\" -> key=\"b\"\n", "f g+! h+! i|f! bare!|", "b"},
		{"kind:\"None\" say:\"*12\" -> key=\"b\"\n", "f g+! h+! i|f! bare!|", ""},
		{"!kind:\"*\" -> key=\"b\"\n", "f g+! h+! i|f! bare!|", ""},
		{"kind:\"None\" !own -> key=\"b\"\n", "f g+! h+! i|f! bare!|", ""},
		{"kind:\"None\" !module:\"x\" -> key=\"b\"\n", "f g+! h+! i|f! bare!|", ""},
		{"kind:\"None\" !file:\"x\" -> key=\"b\"\n", "f g+! h+! i|f! bare!|", ""},
		{"file:\"h.go\" -> key=\"b\"\n", "f g+! h+! i|f! bare!|", "b"},
		{"own func:\"f\" -> key=\"b\"\n", "f g+! h+! i|f! bare!|", ""},
		{"own func:\"h\" -> key=\"b\" hide\n", "f g+! h+ i|f! bare!|", "b"},
	} {
		got, key, e := group.Mark(rules(t, c.rules), sample())
		if seen(got) != c.want || key != c.key || e != api.OK {
			t.Errorf("%q: %s %q %v, not %s %q", c.rules, seen(got), key, e, c.want, c.key)
		}
		for i, fault := range sample() {
			for j, frame := range fault.Frames {
				if got[i][j].Frame != frame {
					t.Errorf("%q: %v, not %v", c.rules, got[i][j].Frame, frame)
				}
			}
		}
	}
}

// P5.4: a fault without frames.
func TestMarkFew(t *testing.T) {
	bare := []api.Fault{{Kind: "a"}}
	for _, c := range []struct{ rules, key string }{{"", ""}, {"-> key=\"k\"\n", "k"}, {"kind:\"a\" -> key=\"k\" hide most=1 own\n", "k"}, {"kind:\"b\" -> key=\"k\"\n", ""}, {"own -> key=\"k\"\n", ""}, {"!own -> key=\"k\"\n", ""}, {"!func:\"b\" -> key=\"k\"\n", ""}} {
		got, key, e := group.Mark(rules(t, c.rules), bare)
		if len(got) != 1 || len(got[0]) > 0 || key != c.key || e != api.OK {
			t.Errorf("%q: %v %q %v", c.rules, got, key, e)
		}
	}
}

// P5.4: Most of the most frames.
func TestMarkMost(t *testing.T) {
	fault := api.Fault{Kind: "a"}
	for range api.MaxFrames {
		fault.Frames = append(fault.Frames, lib("f"))
	}
	for _, n := range []int{1, 2, 199, 200, 201} {
		l := []group.Rule{act(group.Act{Do: group.Most, N: n})}
		if n > api.MaxFrames {
			l = nil
		}
		got, _, e := group.Mark(l, []api.Fault{fault, fault})
		if e != api.OK {
			t.Fatal(e)
		}
		for _, marks := range got {
			for i, m := range marks {
				if m.Shown != (i < n) {
					t.Errorf("%d of %d: %v", i, n, m.Shown)
				}
			}
		}
	}
}

// plainHolds is a plain reading of whether a rule holds for a frame, or, without a frame, for a fault.
func plainHolds(r group.Rule, fault api.Fault, frame *api.Frame, isOwn bool) bool {
	for _, m := range r.If {
		var is bool
		switch {
		case m.On == group.Kind:
			is = group.Fits(m.Glob, fault.Kind)
		case m.On == group.Say:
			is = group.Fits(m.Glob, fault.Text)
		case frame == nil:
			return false
		case m.On == group.Own:
			is = isOwn
		default:
			is = group.Fits(m.Glob, []string{frame.Func, frame.Module, frame.File}[m.On-1])
		}
		if is == m.Not {
			return false
		}
	}
	return true
}

// plainMark is a plain reading of P5.4.
func plainMark(l []group.Rule, faults []api.Fault) ([][]group.Marked, string) {
	type place struct{ fault, frame int }
	own, said, shown := map[place]bool{}, map[place]bool{}, map[place]bool{}
	for i, fault := range faults {
		for j, frame := range fault.Frames {
			own[place{i, j}] = frame.Own
		}
	}
	most, key := 1000, ""
	for _, r := range l {
		var held []place
		any := false
		for i, fault := range faults {
			any = any || plainHolds(r, fault, nil, false)
			for j, frame := range fault.Frames {
				if plainHolds(r, fault, &frame, own[place{i, j}]) {
					held = append(held, place{i, j})
				}
			}
		}
		for _, a := range r.Then {
			for _, p := range held {
				switch a.Do {
				case group.MakeOwn, group.NotOwn:
					own[p] = a.Do == group.MakeOwn
				case group.Hide, group.Show:
					said[p], shown[p] = true, a.Do == group.Show
				}
			}
			if (any || len(held) > 0) && a.Do == group.Most {
				most = a.N
			}
			if (any || len(held) > 0) && a.Do == group.Key {
				key = a.Text
			}
		}
	}
	var marked [][]group.Marked
	for i, fault := range faults {
		var marks []group.Marked
		none := true
		for j := range fault.Frames {
			none = none && !own[place{i, j}]
		}
		left := most
		for j, frame := range fault.Frames {
			p := place{i, j}
			is := shown[p]
			if !said[p] {
				is = own[p] || none
			}
			if is {
				left--
			}
			marks = append(marks, group.Marked{Frame: frame, Own: own[p], Shown: is && left >= 0})
		}
		marked = append(marked, marks)
	}
	return marked, key
}

// P5.4 and P5.5, with plain readings.
func TestMarkPlainly(t *testing.T) {
	r := rand.New(rand.NewSource(1))
	keys, hidden := 0, 0
	for range 20_000 {
		faults := randomFaults(r)
		var l []group.Rule
		for range r.Intn(5) {
			l = append(l, randomRule(r))
		}
		want, wantKey := plainMark(l, faults)
		got, key, e := group.Mark(l, faults)
		if seen(got) != seen(want) || key != wantKey || e != api.OK {
			t.Fatalf("%v of %v: %s %q %v, not %s %q", l, faults, seen(got), key, e, seen(want), wantKey)
		}
		parts, e := group.Parts(l, faults)
		if wanted := plainParts(want, wantKey, faults); !slices.Equal(parts, wanted) || e != api.OK {
			t.Fatalf("%v of %v: %q %v, not %q", l, faults, parts, e, wanted)
		}
		if key != "" {
			keys++
		}
		if !strings.Contains(seen(got), "!") {
			hidden++
		}
	}
	if keys < 1000 || hidden < 1000 {
		t.Error(keys, hidden)
	}
}

// plainParts is a plain reading of Parts.
func plainParts(marked [][]group.Marked, key string, faults []api.Fault) []string {
	if key != "" {
		return []string{"key", key}
	}
	var parts, texts []string
	for i, fault := range faults {
		texts = append(texts, fault.Kind, group.Plain(fault.Text))
		first := true
		for _, m := range marked[i] {
			if m.Shown && first {
				parts = append(parts, fault.Kind)
				first = false
			}
			if m.Shown {
				parts = append(parts, fmt.Sprintf("%s!%s", m.Frame.Module, m.Frame.Func))
			}
		}
	}
	if len(parts) == 0 {
		return texts
	}
	return parts
}

// Z1: the most rules and frames are no reason to wait.
func TestMarkLarge(t *testing.T) {
	var faults []api.Fault
	for i := range api.MaxFaults {
		fault := api.Fault{Kind: word(200), Text: word(2000)}
		for range api.MaxFrames {
			fault.Frames = append(fault.Frames, api.Frame{Module: word(200), Func: "f" + strconv.Itoa(i), File: word(200), Addr: -1})
		}
		faults = append(faults, fault)
	}
	var l []group.Rule
	for i := range group.MaxRules {
		r := group.Rule{Then: []group.Act{{Do: 1 + i%4}, {Do: group.Most, N: 1 + i}}}
		for j := range group.MaxMatch {
			r.If = append(r.If, group.Match{On: []int{group.Func, group.Module, group.File, group.Kind, group.Say}[j%5], Glob: strings.Repeat("*", 99) + "?"})
		}
		l = append(l, r)
	}
	want, _ := plainMark(l, faults[:1])
	got, _, e := group.Mark(l, faults)
	if len(got) != api.MaxFaults || seen(got[:1]) != seen(want) || e != api.OK {
		t.Error(len(got), e)
	}
}
