package event_test

import (
	"math"
	"math/rand"
	"regexp"
	"slices"
	"strings"
	"testing"

	"inquest/api"
	"inquest/event"
)

// goodRules has a rule or more for each place, each find and each deed.
func goodRules() []event.Rule {
	return []event.Rule{
		{Where: event.Texts, Find: event.Digits, Least: 4, Do: event.Mask},
		{Where: event.Tags, Name: "user-*", Find: event.Mails, Do: event.Digest},
		{Where: event.Crumbs, Name: "*", Find: event.All, Do: event.Blank},
		{Where: event.User, Find: event.Literal, Text: "@x~!", Do: event.Mask},
		{Where: event.Files, Find: event.Hexes, Least: 100, Do: event.Digest},
		{Where: event.Tags, Name: "all", Find: event.Literal, Text: "all", Do: event.Blank},
		{Where: event.Tags, Name: "-*._0", Find: event.Hexes, Least: 1, Do: event.Blank},
		{Where: event.Crumbs, Name: strings.Repeat("*", 40), Find: event.Literal, Text: word(40), Do: event.Blank},
	}
}

const goodText = "text digits 4 mask\n" +
	"tag user-* mail digest\n" +
	"crumb * all blank\n" +
	"user literal @x~! mask\n" +
	"file hex 100 digest\n" +
	"tag all literal all blank\n" +
	"tag -*._0 hex 1 blank\n" +
	"crumb **************************************** literal wwwwwwwwwwwwwwwwwwwwwwwwwwwwwwwwwwwwwwww blank\n"

// P4.4
func TestMatches(t *testing.T) {
	for _, c := range []struct {
		pattern, name string
		want          bool
	}{
		{"", "", true}, {"", "a", false}, {"*", "", true}, {"*", "a*b\n\xff", true}, {"**", "", true},
		{"a", "a", true}, {"a", "", false}, {"a", "aa", false}, {"a", "A", false}, {"a.c", "abc", false}, {"?", "a", false}, {"[a]", "a", false}, {"\\*", "\\x", true},
		{"a*", "a", true}, {"a*", "ab", true}, {"a*", "ba", false}, {"*a", "ba", true}, {"*a", "ab", false},
		{"a*a", "a", false}, {"a*a", "aa", true}, {"ab*ba", "aba", false}, {"ab*ba", "abba", true},
		{"*ab*", "aab", true}, {"*ab*", "ba", false}, {"*a*b*", "ba", false}, {"*a*b*", "xaxbx", true}, {"a*b*c", "abcbc", true}, {"a*bc", "abcbc", true}, {"a*b*b", "ab", false},
		{"*aab", "aaab", true}, {"*aab*", "aaab", true}, {"*\xa9", "\xc3\xa9", true},
	} {
		if got := event.Matches(c.pattern, c.name); got != c.want {
			t.Errorf("%q %q: %v", c.pattern, c.name, got)
		}
	}
}

// P4.4: all short patterns and names.
func TestMatchesAll(t *testing.T) {
	all := []string{""}
	for i := 0; len(all[i]) < 6; i++ {
		all = append(all, all[i]+"a", all[i]+"b", all[i]+"*")
	}
	for _, pattern := range all {
		if len(pattern) > 5 {
			continue
		}
		plain := regexp.MustCompile("^(?s:" + strings.ReplaceAll(pattern, "*", ".*") + ")$")
		for _, name := range all {
			if strings.Contains(name, "*") {
				continue
			}
			if got, want := event.Matches(pattern, name), plain.MatchString(name); got != want {
				t.Fatalf("%q %q: %v", pattern, name, got)
			}
		}
	}
}

// P4.4: long patterns and names are no reason to wait.
func TestMatchesLong(t *testing.T) {
	name := strings.Repeat("a", 1_000_000)
	for _, c := range []struct {
		pattern string
		want    bool
	}{
		{strings.Repeat("*a", 1_000_000), true}, {strings.Repeat("a*", 1_000_001), false}, {strings.Repeat("*", 1_000_000) + "b", false},
		{"*" + strings.Repeat("a", 500_000) + "b*", false}, {strings.Repeat("*aaaa", 200_000) + "b*", false}, {"*" + name, true},
	} {
		if got := event.Matches(c.pattern, name); got != c.want {
			t.Errorf("%.10q: %v", c.pattern, got)
		}
	}
}

// P4.4
func TestCheckRules(t *testing.T) {
	most := slices.Repeat(goodRules(), 7)[:50]
	for _, l := range [][]event.Rule{nil, goodRules(), most} {
		if x := event.CheckRules(l); x != api.OK {
			t.Error(l, x)
		}
	}
	if x := event.CheckRules(append(most, event.Rule{})); x != api.ErrLarge {
		t.Error(x)
	}
	text := event.Rule{Where: event.Texts, Find: event.Digits, Least: 1, Do: event.Mask}
	tag := event.Rule{Where: event.Tags, Name: "a", Find: event.Literal, Text: "a", Do: event.Mask}
	for i, c := range []struct {
		rule   event.Rule
		change func(r *event.Rule)
		want   api.Errno
	}{
		{text, func(r *event.Rule) { r.Where = 0 }, api.ErrKind},
		{text, func(r *event.Rule) { r.Where = 6 }, api.ErrKind},
		{text, func(r *event.Rule) { r.Find = 0 }, api.ErrKind},
		{text, func(r *event.Rule) { r.Find = 6 }, api.ErrKind},
		{text, func(r *event.Rule) { r.Do = 0 }, api.ErrKind},
		{text, func(r *event.Rule) { r.Do = 4 }, api.ErrKind},
		{text, func(r *event.Rule) { r.Where, r.Find, r.Do = -1, math.MinInt, math.MaxInt }, api.ErrKind},
		{text, func(r *event.Rule) { r.Name = "a" }, api.ErrForm},
		{text, func(r *event.Rule) { r.Where, r.Name = event.User, "*" }, api.ErrForm},
		{text, func(r *event.Rule) { r.Where, r.Name = event.Files, "*" }, api.ErrForm},
		{text, func(r *event.Rule) { r.Where = event.Tags }, api.ErrForm},
		{text, func(r *event.Rule) { r.Where = event.Crumbs }, api.ErrForm},
		{text, func(r *event.Rule) { r.Find = event.All }, api.ErrForm},
		{text, func(r *event.Rule) { r.Find = event.Mails }, api.ErrForm},
		{tag, func(r *event.Rule) { r.Least = -1 }, api.ErrForm},
		{tag, func(r *event.Rule) { r.Text = "" }, api.ErrForm},
		{text, func(r *event.Rule) { r.Text = "a" }, api.ErrForm},
		{text, func(r *event.Rule) { r.Find, r.Least, r.Text = event.All, 0, "a" }, api.ErrForm},
		{tag, func(r *event.Rule) { r.Name = word(41) }, api.ErrLarge},
		{tag, func(r *event.Rule) { r.Text = word(41) }, api.ErrLarge},
		{text, func(r *event.Rule) { r.Least = 0 }, api.ErrRange},
		{text, func(r *event.Rule) { r.Least = 101 }, api.ErrRange},
		{text, func(r *event.Rule) { r.Least = math.MinInt }, api.ErrRange},
		{text, func(r *event.Rule) { r.Find, r.Least = event.Hexes, 0 }, api.ErrRange},
		{text, func(r *event.Rule) { r.Find, r.Least = event.Hexes, math.MaxInt }, api.ErrRange},
		// The order of several errors.
		{text, func(r *event.Rule) { r.Name, r.Do = "a", 4 }, api.ErrKind},
		{text, func(r *event.Rule) { r.Name = word(41) }, api.ErrForm},
		{text, func(r *event.Rule) { r.Text, r.Least = "\n", 0 }, api.ErrForm},
		{tag, func(r *event.Rule) { r.Name, r.Text = "A", word(41) }, api.ErrLarge},
		{tag, func(r *event.Rule) { *r = event.Rule{Where: event.Tags, Name: "A", Find: event.Digits, Do: event.Mask} }, api.ErrByte},
	} {
		r := c.rule
		c.change(&r)
		for _, l := range [][]event.Rule{{r}, {text, tag, r}, {r, {Where: event.Texts}}, {r, {Where: event.User, Find: event.Hexes, Do: event.Mask}}} {
			if x := event.CheckRules(l); x != c.want {
				t.Errorf("%d: %v: %v, not %v", i, l, x, c.want)
			}
		}
	}
	for n := range 256 {
		s := string([]byte{byte(n)})
		want := api.OK
		if !regexp.MustCompile(`^[a-z0-9._*-]$`).MatchString(s) {
			want = api.ErrByte
		}
		r := tag
		r.Name = s + "a"
		if x := event.CheckRules([]event.Rule{r}); x != want {
			t.Errorf("Name %q: %v", r.Name, x)
		}
		want = api.OK
		if n < 33 || n > 126 {
			want = api.ErrByte
		}
		r = tag
		r.Text = "a" + s
		if x := event.CheckRules([]event.Rule{r}); x != want {
			t.Errorf("Text %q: %v", r.Text, x)
		}
	}
}

// P4.6
func TestRulesText(t *testing.T) {
	if s, x := event.RulesText(goodRules()); s != goodText || x != api.OK {
		t.Errorf("%q %v", s, x)
	}
	if l, n, x := event.ReadRules(goodText); !slices.Equal(l, goodRules()) || n != 0 || x != api.OK {
		t.Error(l, n, x)
	}
	if s, x := event.RulesText(nil); s != "" || x != api.OK {
		t.Error(s, x)
	}
	if l, n, x := event.ReadRules(""); len(l) > 0 || n != 0 || x != api.OK {
		t.Error(l, n, x)
	}
	for _, c := range []struct {
		rules []event.Rule
		want  api.Errno
	}{
		{make([]event.Rule, 51), api.ErrLarge},
		{[]event.Rule{{Where: -1}}, api.ErrKind},
		{append(goodRules(), event.Rule{Where: event.Tags, Find: event.All, Do: event.Mask}), api.ErrForm},
	} {
		if s, x := event.RulesText(c.rules); s != "" || x != c.want {
			t.Errorf("%q %v, not %v", s, x, c.want)
		}
	}
}

// P4.6: lines that are not of the form.
func TestReadRulesSyntax(t *testing.T) {
	for _, line := range []string{
		"\n", " \n", "text\n", "text \n", "text all\n", "text all \n", "text all mask", "text all mask \n", " text all mask\n", "text  all mask\n", "text all  mask\n", "text all mask mask\n", "text all mask\r\n",
		"Text all mask\n", "texts all mask\n", "text any mask\n", "text all star\n", "text mails mask\n", "1 1 1\n",
		"text * all mask\n", "user a all mask\n", "file a all mask\n", "tag all mask\n", "crumb all mask\n", "tag  all mask\n", "tag a\n", "tag a all\n", "tag a b all mask\n", "tag\n", "tag ",
		"text digits mask\n", "text digits  mask\n", "text digits 04 mask\n", "text digits +4 mask\n", "text digits -4 mask\n", "text digits 1000 mask\n", "text digits x mask\n", "text hex mask\n", "text hex 0x1 mask\n", "text hex 00 mask\n", "text mail 4 mask\n", "text all 4 mask\n",
		"text literal mask\n", "text literal  mask\n", "text literal a b mask\n", "text literal a\n",
		"text digits 99999999999999999999 mask\n",
	} {
		if l, n, x := event.ReadRules(line); len(l) > 0 || n != 1 || x != api.ErrSyntax {
			t.Errorf("%q: %v %d %v", line, l, n, x)
		}
		if l, n, x := event.ReadRules(goodText + "text digits 0 mask\n" + line); len(l) > 0 || n != 10 || x != api.ErrSyntax {
			t.Errorf("%q: %v %d %v", line, l, n, x)
		}
		if strings.HasSuffix(line, "\n") {
			if l, n, x := event.ReadRules(line + "x\n"); len(l) > 0 || n != 1 || x != api.ErrSyntax {
				t.Errorf("%q: %v %d %v", line, l, n, x)
			}
		}
	}
	if l, n, x := event.ReadRules(strings.Repeat("text all mask\n", 51) + "x"); len(l) > 0 || n != 52 || x != api.ErrSyntax {
		t.Error(l, n, x)
	}
}

// P4.6: lines that are of the form, and of which CheckRules tells more.
func TestReadRulesCheck(t *testing.T) {
	for _, c := range []struct {
		text string
		want api.Errno
	}{
		{strings.Repeat("x", api.MaxText+1), api.ErrLarge},
		{strings.Repeat("text all mask\n", 51), api.ErrLarge},
		{"tag A all mask\n", api.ErrByte},
		{"crumb \xff\x00 all mask\n", api.ErrByte},
		{"tag " + word(41) + " all mask\n", api.ErrLarge},
		{"text literal \x01 mask\n", api.ErrByte},
		{"text literal " + word(41) + " mask\n", api.ErrLarge},
		{"text digits 0 mask\n", api.ErrRange},
		{"text hex 101 mask\n", api.ErrRange},
		{"text hex 999 mask\ntag A all mask\n", api.ErrRange},
	} {
		if l, n, x := event.ReadRules(c.text); len(l) > 0 || n != 0 || x != c.want {
			t.Errorf("%.80q: %v %d %v, not %v", c.text, l, n, x, c.want)
		}
	}
	if l, n, x := event.ReadRules(word(api.MaxText)); len(l) > 0 || n != 1 || x != api.ErrSyntax {
		t.Error(l, n, x)
	}
}

// P4.6: ReadRules takes nothing but what RulesText writes.
func TestReadRulesText(t *testing.T) {
	plain := regexp.MustCompile(`^(text|user|file|(tag|crumb) [^ \n]+) (all|mail|(digits|hex) (0|[1-9][0-9]{0,2})|literal [^ \n]+) (blank|mask|digest)\n$`)
	r := rand.New(rand.NewSource(6))
	words := strings.Fields("text tag crumb user file all digits mail hex literal blank mask digest a * 1 0 100 04 @")
	taken := 0
	for range 200_000 {
		var l []string
		for range 2 + r.Intn(4) {
			l = append(l, words[r.Intn(len(words))])
		}
		s := strings.Join(l, " ") + "\n"
		if r.Intn(4) == 0 {
			s = changed(r, s)
		}
		rules, n, x := event.ReadRules(s)
		wrong := slices.IndexFunc(strings.SplitAfter(s, "\n"), func(line string) bool { return line != "" && !plain.MatchString(line) })
		if n != wrong+1 || (x == api.ErrSyntax) != (wrong >= 0) {
			t.Fatalf("%q: %d %v, not %d", s, n, x, wrong+1)
		}
		if x != api.OK {
			continue
		}
		taken++
		if again, x := event.RulesText(rules); again != s || x != api.OK {
			t.Fatalf("%q: %q %v", s, again, x)
		}
	}
	if taken < 500 {
		t.Error("only", taken, "texts were taken")
	}
}
