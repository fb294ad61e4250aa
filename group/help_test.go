package group_test

import (
	"math/rand"
	"strings"
	"testing"

	"inquest/api"
	"inquest/group"
)

// word is a string of so many bytes.
func word(n int) string { return strings.Repeat("w", n) }

// rules reads rules.
func rules(t *testing.T, s string) []group.Rule {
	t.Helper()
	l, n, e := group.ReadRules(s)
	if e != api.OK {
		t.Fatalf("%q: %d %v", s, n, e)
	}
	return l
}

// lib and own are frames that are not Own, and that are.
func lib(name string) api.Frame { return api.Frame{Module: "lib", Func: name, Addr: -1} }

func own(name string) api.Frame {
	return api.Frame{Module: "app", Func: name, File: name + ".go", Line: 1, Addr: -1, Own: true}
}

// sample is two faults with frames, the first one with some that are Own, and one without any.
func sample() []api.Fault {
	return []api.Fault{
		{Kind: "Oops", Text: "no 12", Frames: []api.Frame{lib("f"), own("g"), own("h"), lib("i")}},
		{Kind: "Low", Frames: []api.Frame{lib("f"), {Func: "bare", Addr: 7}}},
		{Kind: "None", Text: "at 0xfe"},
	}
}

// act is a rule that asks for nothing.
func act(l ...group.Act) group.Rule { return group.Rule{Then: l} }

// ask is a rule that does something simple.
func ask(l ...group.Match) group.Rule {
	return group.Rule{If: l, Then: []group.Act{{Do: group.Hide}}}
}

// badRules are rules with an error each, of all kinds.
func badRules() []struct {
	name string
	rule group.Rule
	want api.Errno
} {
	return []struct {
		name string
		rule group.Rule
		want api.Errno
	}{
		{"ifs", ask(make([]group.Match, 9)...), api.ErrLarge},
		{"thens", act(make([]group.Act, 9)...), api.ErrLarge},
		{"ifs and no thens", group.Rule{If: make([]group.Match, 9)}, api.ErrLarge},
		{"no thens", group.Rule{If: []group.Match{{On: group.Own}}}, api.ErrNone},
		{"nothing", group.Rule{}, api.ErrNone},
		{"no thens and a bad if", group.Rule{If: []group.Match{{}}}, api.ErrNone},
		{"on 0", ask(group.Match{}), api.ErrKind},
		{"on 7", ask(group.Match{On: 7}), api.ErrKind},
		{"on -1", ask(group.Match{On: -1, Glob: word(101)}), api.ErrKind},
		{"own with a glob", ask(group.Match{On: group.Own, Glob: "x"}), api.ErrForm},
		{"own with a long glob", ask(group.Match{On: group.Own, Glob: word(101)}), api.ErrForm},
		{"long glob", ask(group.Match{On: group.Func, Glob: word(101)}), api.ErrLarge},
		{"long bad glob", ask(group.Match{On: group.Say, Glob: strings.Repeat("\n", 101)}), api.ErrLarge},
		{"byte 31", ask(group.Match{On: group.Module, Glob: "\x1f"}), api.ErrByte},
		{"byte 127", ask(group.Match{On: group.File, Glob: "a\x7f"}), api.ErrByte},
		{"byte 128", ask(group.Match{On: group.Kind, Glob: "a\x80b"}), api.ErrByte},
		{"second if", ask(group.Match{On: group.Own}, group.Match{On: group.Kind, Glob: "\n"}), api.ErrByte},
		{"first of two ifs", ask(group.Match{On: group.Kind, Glob: "\n"}, group.Match{}), api.ErrByte},
		{"if before then", group.Rule{If: []group.Match{{On: group.Kind, Glob: "\n"}}, Then: []group.Act{{}}}, api.ErrByte},
		{"do 0", act(group.Act{}), api.ErrKind},
		{"do 7", act(group.Act{Do: 7, N: 1}), api.ErrKind},
		{"do -1", act(group.Act{Do: -1, Text: "a"}), api.ErrKind},
		{"n of own", act(group.Act{Do: group.MakeOwn, N: 1}), api.ErrForm},
		{"n of -own", act(group.Act{Do: group.NotOwn, N: -1}), api.ErrForm},
		{"text of hide", act(group.Act{Do: group.Hide, Text: "a"}), api.ErrForm},
		{"text of show", act(group.Act{Do: group.Show, Text: word(101)}), api.ErrForm},
		{"text of most", act(group.Act{Do: group.Most, N: 0, Text: "a"}), api.ErrForm},
		{"n of key", act(group.Act{Do: group.Key, N: 1}), api.ErrForm},
		{"most 0", act(group.Act{Do: group.Most}), api.ErrRange},
		{"most -1", act(group.Act{Do: group.Most, N: -1}), api.ErrRange},
		{"most 201", act(group.Act{Do: group.Most, N: 201}), api.ErrRange},
		{"empty key", act(group.Act{Do: group.Key}), api.ErrForm},
		{"long key", act(group.Act{Do: group.Key, Text: strings.Repeat("\n", 101)}), api.ErrLarge},
		{"byte 31 of key", act(group.Act{Do: group.Key, Text: "\x1f"}), api.ErrByte},
		{"byte 127 of key", act(group.Act{Do: group.Key, Text: "a\x7f"}), api.ErrByte},
		{"second then", act(group.Act{Do: group.Hide}, group.Act{Do: group.Key}), api.ErrForm},
		{"first of two thens", act(group.Act{Do: group.Most}, group.Act{}), api.ErrRange},
	}
}

// goodRules has each matcher and each act, also as large as may be.
func goodRules() []group.Rule {
	return []group.Rule{
		{If: []group.Match{{On: group.Module, Glob: "rt"}}, Then: []group.Act{{Do: group.Hide}}},
		{If: []group.Match{{On: group.Kind, Glob: "Timeout*"}}, Then: []group.Act{{Do: group.Key, Text: "slow"}}},
		{If: []group.Match{{On: group.Func, Glob: ""}, {On: group.File, Glob: "*.go", Not: true}, {On: group.Say, Glob: `a "b" \ ~`}, {On: group.Own}, {On: group.Own, Not: true}}, Then: []group.Act{{Do: group.MakeOwn}, {Do: group.NotOwn}, {Do: group.Show}, {Do: group.Most, N: 1}, {Do: group.Most, N: 200}, {Do: group.Key, Text: ` "\`}}},
		{Then: []group.Act{{Do: group.Hide}, {Do: group.Hide}}},
		{If: []group.Match{{On: group.Kind, Glob: word(100)}, {On: 1}, {On: 1}, {On: 1}, {On: 1}, {On: 1}, {On: 1}, {On: 1, Not: true}}, Then: []group.Act{{Do: group.Key, Text: word(100)}, {Do: 1}, {Do: 1}, {Do: 1}, {Do: 1}, {Do: 1}, {Do: 1}, {Do: 1}}},
	}
}

// goodText is how these are written.
func goodText() string {
	return "module:\"rt\" -> hide\n" +
		"kind:\"Timeout*\" -> key=\"slow\"\n" +
		"func:\"\" !file:\"*.go\" say:\"a \\\"b\\\" \\\\ ~\" own !own -> own -own show most=1 most=200 key=\" \\\"\\\\\"\n" +
		"-> hide hide\n" +
		"kind:\"" + word(100) + "\"" + strings.Repeat(" func:\"\"", 6) + " !func:\"\" -> key=\"" + word(100) + "\"" + strings.Repeat(" own", 7) + "\n"
}

// randomFrom is a string of so many bytes at most, of these.
func randomFrom(r *rand.Rand, bytes string, most int) string {
	var b strings.Builder
	for range r.Intn(most + 1) {
		b.WriteByte(bytes[r.Intn(len(bytes))])
	}
	return b.String()
}

// randomRule is a rule without errors that often holds for random faults.
func randomRule(r *rand.Rand) group.Rule {
	var rule group.Rule
	for range r.Intn(4) {
		m := group.Match{On: 1 + r.Intn(6), Not: r.Intn(3) == 0}
		if m.On != group.Own {
			m.Glob = randomFrom(r, "aabb**?", 3)
		}
		rule.If = append(rule.If, m)
	}
	for range 1 + r.Intn(3) {
		a := group.Act{Do: 1 + r.Intn(6)}
		switch a.Do {
		case group.Most:
			a.N = 1 + r.Intn(4)
		case group.Key:
			a.Text = "k" + randomFrom(r, "abc", 2)
		}
		rule.Then = append(rule.Then, a)
	}
	return rule
}

// randomFaults are small faults without errors.
func randomFaults(r *rand.Rand) []api.Fault {
	l := make([]api.Fault, 1+r.Intn(3))
	for i := range l {
		l[i] = api.Fault{Kind: "a" + randomFrom(r, "ab", 2), Text: randomFrom(r, "ab 0x1\"", 6)}
		for range r.Intn(5) {
			l[i].Frames = append(l[i].Frames, api.Frame{Module: randomFrom(r, "ab", 2), Func: "b" + randomFrom(r, "ab", 2), File: randomFrom(r, "ab", 2), Addr: -1, Own: r.Intn(3) == 0})
		}
	}
	return l
}
