package group_test

import (
	"fmt"
	"math"
	"math/rand"
	"regexp"
	"strings"
	"testing"

	"inquest/api"
	"inquest/group"
)

// P5.1
func TestFits(t *testing.T) {
	for _, c := range []struct {
		glob, s string
		want    bool
	}{
		{"", "", true}, {"", "a", false}, {"*", "", true}, {"*", "a*?\n\xff\x00", true}, {"**", "", true}, {"?", "", false}, {"?", "a", true}, {"?", "\xff", true}, {"?", "\xc3\xa9", false}, {"??", "\xc3\xa9", true},
		{"a", "a", true}, {"a", "", false}, {"a", "aa", false}, {"a", "A", false}, {"aa", "a", false}, {"[a]", "a", false}, {"\\*", "\\x", true}, {"\\*", "*", false}, {".", "a", false},
		{"a*", "a", true}, {"a*", "ab", true}, {"a*", "ba", false}, {"*a", "ba", true}, {"*a", "ab", false}, {"*?", "", false}, {"?*", "", false}, {"?*?", "a", false}, {"?*?", "ab", true}, {"*?*", "a", true},
		{"a*a", "a", false}, {"a*a", "aa", true}, {"ab*ba", "aba", false}, {"ab*ba", "abba", true}, {"a*b*c", "abcbc", true}, {"a*bc", "abcbc", true}, {"a*b*b", "ab", false}, {"*aab", "aaab", true}, {"*a?b", "aaab", true}, {"a*?c", "ac", false},
		{"*", "", true}, {"a***", "a", true}, {"a*?*", "a", false}, {"x*", "*x", false}, {"*x", "*x", true},
		{word(100), word(100), true}, {word(101), word(101), false}, {strings.Repeat("*", 100), "a", true}, {strings.Repeat("*", 101), "a", false}, {strings.Repeat("?", 100), word(100), true}, {strings.Repeat("?", 100), word(99), false},
	} {
		if got := group.Fits(c.glob, c.s); got != c.want {
			t.Errorf("%.30q %.30q: %v", c.glob, c.s, got)
		}
	}
}

// P5.1: all short patterns and strings.
func TestFitsAll(t *testing.T) {
	all := []string{""}
	for i := 0; len(all[i]) < 5; i++ {
		all = append(all, all[i]+"a", all[i]+"b", all[i]+"*", all[i]+"?")
	}
	plainly := strings.NewReplacer("*", ".*", "?", ".")
	for _, glob := range all {
		plain := regexp.MustCompile("^(?s:" + plainly.Replace(glob) + ")$")
		for _, s := range all {
			if got, want := group.Fits(glob, s), plain.MatchString(s); got != want {
				t.Fatalf("%q %q: %v", glob, s, got)
			}
		}
	}
}

// P5.1: long patterns and strings are no reason to wait.
func TestFitsLong(t *testing.T) {
	long := strings.Repeat("a", 1_000_000)
	for _, c := range []struct {
		glob string
		want bool
	}{
		{strings.Repeat("*a", 50), true}, {strings.Repeat("*a", 49) + "*b", false}, {strings.Repeat("a*", 49) + "?b", false}, {strings.Repeat("*?", 50), true},
		{"*" + strings.Repeat("a", 98) + "b", false}, {"*" + strings.Repeat("?", 98) + "b", false}, {"*" + strings.Repeat("a", 98) + "*", true}, {strings.Repeat("*", 100), true},
	} {
		if got := group.Fits(c.glob, long); got != c.want {
			t.Errorf("%q: %v", c.glob, got)
		}
	}
}

// P5.2
func TestCheckRules(t *testing.T) {
	if e := group.CheckRules(goodRules()); e != api.OK {
		t.Error(e)
	}
	for _, c := range badRules() {
		if e := group.CheckRules([]group.Rule{c.rule}); e != c.want {
			t.Errorf("%s: %v, not %v", c.name, e, c.want)
		}
		if e := group.CheckRules(append(goodRules(), c.rule, group.Rule{If: make([]group.Match, 9)})); e != c.want {
			t.Errorf("%s behind others: %v, not %v", c.name, e, c.want)
		}
	}
	hide := act(group.Act{Do: group.Hide})
	var l []group.Rule
	for range group.MaxRules {
		l = append(l, hide)
	}
	if e := group.CheckRules(l); e != api.OK {
		t.Error(e)
	}
	l = append(l, hide)
	if e := group.CheckRules(l); e != api.ErrLarge {
		t.Error(e)
	}
	l[0] = group.Rule{}
	if e := group.CheckRules(l); e != api.ErrLarge {
		t.Error(e)
	}
	if e := group.CheckRules(nil); e != api.OK {
		t.Error(e)
	}
}

// P5.2: functions with rules first return CheckRules' error, then stack.Check's.
func TestErrorsFirst(t *testing.T) {
	bad := append(sample(), api.Fault{Kind: ":"})
	for _, c := range []struct {
		rules  []group.Rule
		faults []api.Fault
		want   api.Errno
	}{
		{[]group.Rule{{}}, bad, api.ErrNone},
		{[]group.Rule{act(group.Act{Do: group.Most, N: math.MaxInt})}, nil, api.ErrRange},
		{make([]group.Rule, 101), nil, api.ErrLarge},
		{goodRules(), bad, api.ErrByte},
		{nil, nil, api.ErrNone},
		{nil, make([]api.Fault, 11), api.ErrLarge},
		{rulesFor("a"), []api.Fault{{Kind: "a", Frames: []api.Frame{{}}}}, api.ErrForm},
	} {
		marked, key, e := group.Mark(c.rules, c.faults)
		if len(marked) > 0 || key != "" || e != c.want {
			t.Errorf("Mark: %v %q %v, not %v", marked, key, e, c.want)
		}
		if parts, e := group.Parts(c.rules, c.faults); len(parts) > 0 || e != c.want {
			t.Errorf("Parts: %v %v, not %v", parts, e, c.want)
		}
		if s, e := group.Print(c.rules, c.faults); s != "" || e != c.want {
			t.Errorf("Print: %q %v, not %v", s, e, c.want)
		}
	}
	for _, c := range badRules() {
		if s, e := group.RulesText([]group.Rule{goodRules()[0], c.rule}); s != "" || e != c.want {
			t.Errorf("RulesText of %s: %q %v, not %v", c.name, s, e, c.want)
		}
		if _, _, e := group.Mark([]group.Rule{c.rule}, nil); e != c.want {
			t.Errorf("Mark of %s: %v, not %v", c.name, e, c.want)
		}
	}
}

// rulesFor is a rule that sets a key for faults of a kind.
func rulesFor(kind string) []group.Rule {
	return []group.Rule{{If: []group.Match{{On: group.Kind, Glob: kind}}, Then: []group.Act{{Do: group.Key, Text: "k"}}}}
}

// P5.3
func TestRulesText(t *testing.T) {
	s, e := group.RulesText(goodRules())
	if s != goodText() || e != api.OK {
		t.Errorf("%s\n%v, not\n%s", s, e, goodText())
	}
	l, n, e := group.ReadRules(goodText())
	if fmt.Sprint(l) != fmt.Sprint(goodRules()) || n != 0 || e != api.OK {
		t.Error(l, n, e)
	}
	if s, e := group.RulesText(nil); s != "" || e != api.OK {
		t.Error(s, e)
	}
	if l, n, e := group.ReadRules(""); len(l) > 0 || n != 0 || e != api.OK {
		t.Error(l, n, e)
	}
}

// P5.3: the longest text of rules is one that can be read.
func TestRulesTextLongest(t *testing.T) {
	var rule group.Rule
	for range group.MaxMatch {
		rule.If = append(rule.If, group.Match{On: group.Module, Not: true, Glob: strings.Repeat(`"`, group.MaxGlob)})
		rule.Then = append(rule.Then, group.Act{Do: group.Key, Text: strings.Repeat(`\`, group.MaxKey)})
	}
	var l []group.Rule
	for range group.MaxRules {
		l = append(l, rule)
	}
	s, e := group.RulesText(l)
	if len(s) > api.MaxText || e != api.OK {
		t.Fatal(len(s), e)
	}
	if got, n, e := group.ReadRules(s); fmt.Sprint(got) != fmt.Sprint(l) || n != 0 || e != api.OK {
		t.Error(len(got), n, e)
	}
}

// P5.3: what is of no form.
func TestReadRulesSyntax(t *testing.T) {
	lines := []string{
		"", " ", "own", "-> own ", "own -> ", "-> ", " -> own", "->own", "-> own  hide", "own  -> own", "own->own", "own-> own", "-> own -> own", "-> -> own", "own", "own own", "- > own", "=> own", "> own", "- own",
		"!-> own", "! -> own", "!!own -> own", "! own -> own", "ownx -> own", "Own -> own", "own: -> own", "own:\"\" -> own", "own=\"\" -> own", "-own -> own", "hide -> own", "most=1 -> own", "key=\"a\" -> own",
		"func -> own", "func: -> own", "func:a -> own", "func:'a' -> own", "func:\"a -> own", "func:a\" -> own", "func:\"a\"\" -> own", "func:\"a\"b -> own", "func: \"a\" -> own", "func :\"a\" -> own", "func=\"a\" -> own", "Func:\"a\" -> own", "funcs:\"a\" -> own", "text:\"a\" -> own", "func:\"a\"->own", "func:\"a\"own -> own",
		"func:\"\\a\" -> own", "func:\"\\\" -> own", "func:\"a\\", "func:\"", "func:\"\\", "func:\"\\n\" -> own", "func:\"a\" own", "func:\"a\"",
		"-> owns", "-> Own", "-> !own", "-> --own", "-> - own", "-> +own", "-> func:\"a\"", "-> hide,show", "-> hide\tshow", "-> hideshow", "-> x", "-> own x", "-> own\r",
		"-> most", "-> most=", "-> most= 1", "-> most=a", "-> most=1a", "-> most=01", "-> most=00", "-> most=-1", "-> most=+1", "-> most=-0", "-> most=1000", "-> most=0001", "-> most=1.0", "-> most=\"1\"", "-> most:1", "-> most=1,", "-> most=99999999999999999999999", "-> most=1_0", "-> most=0x1",
		"-> key", "-> key=", "-> key=a", "-> key=\"a", "-> key=\"a\"b", "-> key=\"a\"\"", "-> key:\"a\"", "-> key=\"\\x\"", "-> key=\"\\", "-> key=\"a\" ", "-> key=\"a\"own",
	}
	good := goodText()
	n := strings.Count(good, "\n")
	for _, line := range lines {
		if l, at, e := group.ReadRules(line + "\n"); len(l) > 0 || at != 1 || e != api.ErrSyntax {
			t.Errorf("%q: %v %d %v", line, l, at, e)
		}
		if l, at, e := group.ReadRules(good + line + "\nx\n"); len(l) > 0 || at != n+1 || e != api.ErrSyntax {
			t.Errorf("%q behind others: %v %d %v", line, l, at, e)
		}
		// A syntax error comes before each other error.
		if l, at, e := group.ReadRules("-> most=0\n" + line + "\n"); len(l) > 0 || at != 2 || e != api.ErrSyntax {
			t.Errorf("%q behind an error: %v %d %v", line, l, at, e)
		}
	}
	for _, s := range []string{"-> own", "->", "own", "x", "-> key=\"a\""} {
		if l, at, e := group.ReadRules(good + s); len(l) > 0 || at != n+1 || e != api.ErrSyntax {
			t.Errorf("%q without an end: %v %d %v", s, l, at, e)
		}
	}
}

// P5.3: errors of what is of the form.
func TestReadRulesErrors(t *testing.T) {
	for _, c := range []struct {
		text string
		want api.Errno
	}{
		{"->\n", api.ErrNone}, {"own ->\n", api.ErrNone}, {"-> own\n->\n", api.ErrNone},
		{"-> most=0\n", api.ErrRange}, {"-> most=201\n", api.ErrRange}, {"-> most=999\n", api.ErrRange},
		{"-> key=\"\"\n", api.ErrForm}, {"-> key=\"" + word(101) + "\"\n", api.ErrLarge}, {"-> key=\"\t\"\n", api.ErrByte}, {"-> key=\"\xc3\xa9\"\n", api.ErrByte},
		{"func:\"" + word(101) + "\" -> own\n", api.ErrLarge}, {"say:\"\x00\" -> own\n", api.ErrByte}, {"say:\"\x80\" -> own\n", api.ErrByte},
		{strings.Repeat("own ", 9) + "-> own\n", api.ErrLarge}, {"->" + strings.Repeat(" own", 9) + "\n", api.ErrLarge}, {strings.Repeat("own ", 9) + "->\n", api.ErrLarge},
		{strings.Repeat("-> own\n", 101), api.ErrLarge}, {strings.Repeat("->\n", 101), api.ErrLarge},
		{"-> most=0\nsay:\"\x00\" -> own\n", api.ErrRange},
		{strings.Repeat("x", api.MaxText+1), api.ErrLarge}, {strings.Repeat("-> own\n", 1_000_000), api.ErrLarge},
	} {
		if l, n, e := group.ReadRules(c.text); len(l) > 0 || n != 0 || e != c.want {
			t.Errorf("%.30q: %v %d %v, not %v", c.text, len(l), n, e, c.want)
		}
	}
	if _, n, e := group.ReadRules(strings.Repeat("x", api.MaxText)); n != 1 || e != api.ErrSyntax {
		t.Error(n, e)
	}
	if l, n, e := group.ReadRules(strings.Repeat("-> own\n", 100)); len(l) != 100 || n != 0 || e != api.OK {
		t.Error(len(l), n, e)
	}
}

// P5.3: ReadRules reads just what RulesText writes.
func TestReadRulesExact(t *testing.T) {
	r := rand.New(rand.NewSource(3))
	read := 0
	for range 50_000 {
		var l []group.Rule
		for range r.Intn(3) {
			l = append(l, randomRule(r))
		}
		s, e := group.RulesText(l)
		if e != api.OK {
			t.Fatal(l, e)
		}
		if got, n, e := group.ReadRules(s); fmt.Sprint(got) != fmt.Sprint(l) || n != 0 || e != api.OK {
			t.Fatalf("%q: %v %d %v", s, got, n, e)
		}
		if s == "" {
			continue
		}
		at := r.Intn(len(s))
		changed := s[:at] + randomFrom(r, " !\"\\:=->own\n0", 2) + s[at+r.Intn(2):]
		got, n, e := group.ReadRules(changed)
		if e == api.OK {
			read++
			if again, _ := group.RulesText(got); again != changed {
				t.Fatalf("%q is read as %q", changed, again)
			}
		}
		if (e == api.ErrSyntax) != (n > 0) || n > strings.Count(changed, "\n")+1 {
			t.Fatalf("%q: %d %v", changed, n, e)
		}
	}
	if read < 1000 {
		t.Error(read)
	}
}
