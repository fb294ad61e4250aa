package event_test

import (
	"math"
	"math/rand"
	"regexp"
	"slices"
	"strconv"
	"strings"
	"testing"

	"inquest/api"
	"inquest/event"
)

// rules reads rules.
func rules(t *testing.T, s string) []event.Rule {
	t.Helper()
	l, n, x := event.ReadRules(s)
	if x != api.OK {
		t.Fatalf("%q: %d %v", s, n, x)
	}
	return l
}

// P4.5: what is found, and what comes in its place.
func TestClearText(t *testing.T) {
	for _, c := range []struct {
		rules, text, want string
		times             int
	}{
		{"text digits 4 mask\n", "card 12345 of 12", "card ***** of 12", 1},
		{"text digits 2 mask\n", "1 12 123 1a12", "1 ** *** 1a**", 3},
		{"text digits 1 blank\n", "1 12 123 1a12", "   a", 5},
		{"text digits 3 blank\n", "12", "12", 0},
		{"text digits 3 blank\n", "123", "", 1},
		{"text digits 100 mask\n", strings.Repeat("1", 99) + "x" + strings.Repeat("1", 100), strings.Repeat("1", 99) + "x" + strings.Repeat("*", 100), 1},
		{"text digits 1 mask\n", "\xd9\xa1", "\xd9\xa1", 0},
		{"text hex 4 mask\n", "cafe 0x1234 CAFE abcg12ef", "**** 0x**** CAFE abcg****", 3},
		{"text hex 1 blank\n", "abcdefghABCDEF0123456789/:", "ghABCDEF/:", 2},
		{"text mail mask\n", "to a.b@c.d, e@f!", "to *******, ***!", 2},
		{"text mail blank\n", "A_z-9.@.", "", 1},
		{"text mail blank\n", "a@b@c", "@c", 1},
		{"text mail blank\n", "a@b@c@d", "@", 2},
		{"text mail mask\n", "a@b c@d@e", "*** ***@e", 2},
		{"text mail mask\n", "a@@b @a b@ @ @@a@b@@", "a@@b @a b@ @ @@***@@", 1},
		{"text mail mask\n", "a@b+c@d", "***+***", 2},
		{"text mail mask\n", "\xc3\xa9a@b\xc3\xa9", "\xc3\xa9***\xc3\xa9", 1},
		{"text literal aa blank\n", "aaaaa", "a", 2},
		{"text literal ab blank\n", "aabbabc", "abc", 2},
		{"text literal aba mask\n", "ababa", "***ba", 1},
		{"text literal * mask\n", "a*b*", "a*b*", 2},
		{"text literal 1 digest\n", "1x1", event.Sum("1") + "x" + event.Sum("1"), 2},
		{"text literal A mask\n", "aA", "a*", 1},
		{"text all blank\n", "a b", "", 1},
		{"text all blank\n", "", "", 0},
		{"text all mask\n", "a \xc3\xa9", "****", 1},
		{"text all digest\n", "a b", event.Sum("a b"), 1},
		{"text all digest\n", "", "", 0},
		{"text digits 2 digest\n", "a 123 4", "a " + event.Sum("123") + " 4", 1},
		{"text mail digest\n", "a@b@c", event.Sum("a@b") + "@c", 1},
		{"text hex 3 digest\n", "abcx", event.Sum("abc") + "x", 1},
	} {
		e, hits, x := event.Clear(said(c.text), rules(t, c.rules))
		var want []event.Hit
		if c.times > 0 {
			want = []event.Hit{{Rule: 0, Times: c.times}}
		}
		if !event.Same(e, said(c.want)) || !slices.Equal(hits, want) || x != api.OK {
			t.Errorf("%q %.50q: %.50q %v %v", c.rules, c.text, e.Faults[0].Text, hits, x)
		}
	}
}

// P4.5: each rule is for what those before it have left.
func TestClearOrder(t *testing.T) {
	for _, c := range []struct {
		rules, want string
		hits        []event.Hit
	}{
		{"text literal a blank\ntext literal bb mask\n", "**", []event.Hit{{0, 2}, {1, 1}}},
		{"text literal bb mask\ntext literal a blank\n", "bb", []event.Hit{{1, 2}}},
		{"text literal bab mask\ntext all digest\n", event.Sum("***a"), []event.Hit{{0, 1}, {1, 1}}},
		{"text all blank\ntext all digest\ntext all digest\n", "", []event.Hit{{0, 1}}},
		{"text all digest\ntext all digest\n", event.Sum(event.Sum("baba")), []event.Hit{{0, 1}, {1, 1}}},
		{"user all mask\ntext literal x mask\ntext literal a mask\n", "b*b*", []event.Hit{{2, 2}}},
	} {
		if e, hits, x := event.Clear(said("baba"), rules(t, c.rules)); !event.Same(e, said(c.want)) || !slices.Equal(hits, c.hits) || x != api.OK {
			t.Errorf("%q: %v %v %v", c.rules, e, hits, x)
		}
	}
}

// P4.5: where rules look.
func TestClearPlaces(t *testing.T) {
	for _, c := range []struct {
		rules  string
		change func(e *api.Event)
		times  int
	}{
		{"text digits 1 mask\n", func(e *api.Event) {
			e.Faults[0].Text, e.Faults[1].Text = "card ***** of \xc3\xa9: a.b@c.d", "*xcafe*"
		}, 3},
		{"tag * digits 1 mask\n", func(e *api.Event) { e.Tags[1].Value, e.Tags[2].Value = "linux *", "a@b ****" }, 2},
		{"tag os digits 1 mask\n", func(e *api.Event) { e.Tags[1].Value = "linux *" }, 1},
		{"tag user-* mail blank\n", func(e *api.Event) { e.Tags[2].Value = " 1234" }, 1},
		{"tag user all blank\n", func(e *api.Event) {}, 0},
		{"tag net digits 1 mask\n", func(e *api.Event) {}, 0},
		{"tag h* all digest\n", func(e *api.Event) {}, 0},
		{"crumb * digits 1 mask\n", func(e *api.Event) { e.Crumbs[0].Text, e.Crumbs[2].Text = "get /** \xff", " ** " }, 2},
		{"crumb n*t all blank\n", func(e *api.Event) { e.Crumbs[0].Text, e.Crumbs[2].Text = "", "" }, 2},
		{"crumb ui all blank\n", func(e *api.Event) {}, 0},
		{"crumb os digits 1 mask\n", func(e *api.Event) {}, 0},
		{"user mail mask\n", func(e *api.Event) { e.User = "ann b <*********>" }, 1},
		{"user all blank\n", func(e *api.Event) { e.User = "" }, 1},
		{"file digits 4 mask\n", func(e *api.Event) {
			e.Faults[0].Frames[2].File, e.Faults[1].Frames[2].File = "rt****.s", "rt****.s"
		}, 2},
		{"file literal .go blank\n", func(e *api.Event) {
			e.Faults[0].Frames[1].File, e.Faults[1].Frames[0].File, e.Faults[1].Frames[1].File = "main", "g", "main"
		}, 3},
		{"file literal g.go blank\n", func(e *api.Event) { e.Faults[1].Frames[0].File = "" }, 1},
	} {
		e, hits, x := event.Clear(sample(), rules(t, c.rules))
		var want []event.Hit
		if c.times > 0 {
			want = []event.Hit{{Rule: 0, Times: c.times}}
		}
		if !event.Same(e, with(c.change)) || !slices.Equal(hits, want) || x != api.OK {
			t.Errorf("%q: %v %v %v", c.rules, e, hits, x)
		}
	}
	if e, hits, x := event.Clear(sample(), nil); !event.Same(e, sample()) || len(hits) > 0 || x != api.OK {
		t.Error(e, hits, x)
	}
}

// P4.5: errors of rules, and of what they leave.
func TestClearErrors(t *testing.T) {
	grows := "1" + strings.Repeat(" 1", 999)
	textGrows := func(e *api.Event) { e.Faults[1].Text = grows }
	for i, c := range []struct {
		rules  string
		change func(e *api.Event)
		want   api.Errno
	}{
		{"file all blank\n", func(e *api.Event) {}, api.ErrForm},
		{"file literal main.go blank\n", func(e *api.Event) {}, api.ErrForm},
		{"text digits 1 digest\n", textGrows, api.ErrLarge},
		{"tag os literal x digest\n", func(e *api.Event) { e.Tags[1].Value = "y" + strings.Repeat("x", 20) }, api.ErrLarge},
		{"crumb ui digits 1 digest\n", func(e *api.Event) { e.Crumbs[1].Text = grows }, api.ErrLarge},
		{"user literal x digest\n", func(e *api.Event) { e.User = strings.Repeat("x", 13) }, api.ErrLarge},
		{"file literal w digest\n", func(e *api.Event) { e.Faults[1].Frames[0].File = word(13) }, api.ErrLarge},
		// The order of several errors is that of Check, not that of the rules.
		{"text digits 1 digest\nfile literal main.go blank\n", textGrows, api.ErrForm},
		{"file literal g.go blank\ntext digits 1 digest\n", func(e *api.Event) { textGrows(e); e.Faults[1].Frames[0].Line = 1 }, api.ErrLarge},
		{"user literal x digest\nfile literal main.go blank\n", func(e *api.Event) { e.User = strings.Repeat("x", 200) }, api.ErrForm},
		{"file literal main.go blank\nfile literal w digest\n", func(e *api.Event) { e.Faults[0].Frames[0].File = word(200) }, api.ErrLarge},
		{"file literal main.go blank\nfile literal w digest\n", func(e *api.Event) { e.Faults[0].Frames[2].File = word(200) }, api.ErrForm},
	} {
		if e, hits, x := event.Clear(with(c.change), rules(t, c.rules)); !zero(e) || len(hits) > 0 || x != c.want {
			t.Errorf("%d: %v %v %v, not %v", i, e, hits, x, c.want)
		}
	}
	for _, c := range []struct {
		rules []event.Rule
		want  api.Errno
	}{
		{make([]event.Rule, 51), api.ErrLarge},
		{append(goodRules(), event.Rule{}), api.ErrKind},
		{[]event.Rule{{Where: event.Files, Find: event.All, Do: event.Blank}, {Where: event.Tags, Find: event.All, Do: event.Mask}}, api.ErrForm},
	} {
		if e, hits, x := event.Clear(sample(), c.rules); !zero(e) || len(hits) > 0 || x != c.want {
			t.Errorf("%v %v %v, not %v", e, hits, x, c.want)
		}
	}
	// as large as it may be, and larger
	l := rules(t, "text literal x digest\n")
	e, hits, x := event.Clear(said(strings.Repeat("x", 125)), l)
	if !event.Same(e, said(strings.Repeat(event.Sum("x"), 125))) || !slices.Equal(hits, []event.Hit{{Rule: 0, Times: 125}}) || x != api.OK {
		t.Error(e, hits, x)
	}
	if e, hits, x := event.Clear(said(strings.Repeat("x", 126)), l); !zero(e) || len(hits) > 0 || x != api.ErrLarge {
		t.Error(e, hits, x)
	}
}

// P4.5: what is too large between two rules, but not at the end, is right.
func TestClearBetween(t *testing.T) {
	text := "1" + strings.Repeat(" 1", 999)
	grow := "text digits 1 digest\n"
	between := text
	var want []event.Hit
	digits := regexp.MustCompile(`[0-9]+`)
	for i := range 4 {
		want = append(want, event.Hit{Rule: i, Times: len(digits.FindAllString(between, -1))})
		between = digits.ReplaceAllStringFunc(between, event.Sum)
	}
	if len(between) < api.MaxText {
		t.Fatal("digests do not grow as thought")
	}
	want = append(want, event.Hit{Rule: 4, Times: 1})
	for _, c := range []struct{ last, left string }{{"text all blank\n", ""}, {"text all digest\n", event.Sum(between)}} {
		e, hits, x := event.Clear(said(text), rules(t, strings.Repeat(grow, 4)+c.last))
		if !event.Same(e, said(c.left)) || !slices.Equal(hits, want) || x != api.OK {
			t.Error(c.last, hits, x)
		}
	}
	// Without an end it is too large.
	for _, where := range []string{"text", "file", "user", "tag *", "crumb *"} {
		l := rules(t, strings.Repeat(where+" digits 1 digest\n", 50))
		e := largest()
		for i := range e.Faults {
			e.Faults[i].Text = text
			for j := range e.Faults[i].Frames {
				e.Faults[i].Frames[j].File = strings.Repeat("1-", 100)
			}
		}
		e.Tags[0].Value, e.User, e.Crumbs[0].Text = "1", "1", text
		if e, hits, x := event.Clear(e, l); !zero(e) || len(hits) > 0 || x != api.ErrLarge {
			t.Error(where, hits, x)
		}
	}
}

// P4.5: strings between two rules may be longer than any memory.
func TestClearLong(t *testing.T) {
	sixes := strings.Repeat("6", 2000)
	for _, c := range []struct {
		where  string
		change func(e *api.Event, text string)
		most   int
	}{
		{"text", func(e *api.Event, text string) { e.Faults[0].Text = text }, 2000},
		{"crumb k", func(e *api.Event, text string) { e.Crumbs = []api.Crumb{{Kind: "k", Text: text}} }, 2000},
		{"tag k", func(e *api.Event, text string) { e.Tags = []api.Tag{{Name: "k", Value: text}} }, 200},
		{"user", func(e *api.Event, text string) { e.User = text }, 200},
		{"file", func(e *api.Event, text string) { e.Faults[0].Frames = []api.Frame{{Func: "f", File: text}} }, 200},
	} {
		given, left := simple(), simple()
		c.change(&given, sixes[:c.most])
		c.change(&left, "")
		grow := strings.Repeat(c.where+" literal 6 digest\n", 48)
		for _, last := range [][]string{{"all blank"}, {"hex 1 blank"}, {"digits 1 mask", "all blank"}} {
			l := rules(t, grow+c.where+" "+strings.Join(last, "\n"+c.where+" ")+"\n")
			e, hits, x := event.Clear(given, l)
			if !event.Same(e, left) || len(hits) != len(l) || x != api.OK {
				t.Fatal(c.where, last, hits, x)
			}
			for i, hit := range hits[:48] {
				if hit != (event.Hit{Rule: i, Times: c.most << i}) {
					t.Error(c.where, hit)
				}
			}
			if hits[len(l)-1].Times != 1 {
				t.Error(c.where, last, hits[48:])
			}
		}
		if e, hits, x := event.Clear(given, rules(t, grow)); !zero(e) || len(hits) > 0 || x != api.ErrLarge {
			t.Error(c.where, hits, x)
		}
	}
}

// P4.5: more hits than an int can tell are the greatest int.
func TestClearOften(t *testing.T) {
	l := rules(t, strings.Repeat("text digits 1 digest\n", 49)+"text all blank\n")
	e, hits, x := event.Clear(said("1"+strings.Repeat(" 1", 999)), l)
	if !event.Same(e, said("")) || len(hits) != 50 || x != api.OK {
		t.Fatal(e, hits, x)
	}
	if hits[0].Times != 1000 || hits[48].Times != math.MaxInt || hits[49] != (event.Hit{Rule: 49, Times: 1}) {
		t.Error(hits)
	}
	for i := range hits[:48] {
		if hits[i].Times > hits[i+1].Times {
			t.Error(hits[i:])
		}
	}
}

// growingRule is a rule that often makes a text longer, and leaves more to be found.
func growingRule(r *rand.Rand, text string) event.Rule {
	rule := event.Rule{Where: event.Texts, Find: event.Literal, Do: []int{event.Blank, event.Mask, event.Digest, event.Digest, event.Digest}[r.Intn(5)]}
	switch r.Intn(8) {
	case 0, 1:
		rule.Find, rule.Least = event.Digits, 1+r.Intn(3)
	case 2:
		rule.Find, rule.Least = event.Hexes, 1+r.Intn(20)
	case 3:
		rule.Find = event.Mails
	default:
		rule.Text = randomFrom(r, "0123456789abcdef*", 1)
		if from, long := r.Intn(len(text)+1), 1+r.Intn(8); from+long <= len(text) && !strings.Contains(text[from:from+long], " ") {
			rule.Text = text[from : from+long]
		}
		if rule.Text == "" {
			rule.Text = "6"
		}
	}
	return rule
}

// P4.5: what is long between two rules, with a plain reading.
func TestClearGrown(t *testing.T) {
	r := rand.New(rand.NewSource(9))
	found := 0
	for range 1500 {
		given := said(randomFrom(r, "0123456789abcdef* .@", 200))
		left := said(given.Faults[0].Text)
		var l []event.Rule
		var want []event.Hit
		use := func(rule event.Rule) {
			for _, hit := range plainClear(&left, []event.Rule{rule}) {
				want = append(want, event.Hit{Rule: len(l), Times: hit.Times})
				found += hit.Times
			}
			l = append(l, rule)
		}
		for range 6 {
			if len(left.Faults[0].Text) < 30_000 {
				use(growingRule(r, left.Faults[0].Text))
			}
		}
		use(event.Rule{Where: event.Texts, Find: event.All, Do: event.Digest})
		e, hits, x := event.Clear(given, l)
		if !event.Same(e, left) || !slices.Equal(hits, want) || x != api.OK {
			t.Fatalf("%v of %q: %q %v %v, not %q %v", l, given.Faults[0].Text, e.Faults[0].Text, hits, x, left.Faults[0].Text, want)
		}
	}
	if found < 100_000 {
		t.Error(found)
	}
}

// plainFind is a plain reading of what a rule looks for.
func plainFind(r event.Rule) *regexp.Regexp {
	least := "{" + strconv.Itoa(r.Least) + ",}"
	switch r.Find {
	case event.Digits:
		return regexp.MustCompile(`[0-9]` + least)
	case event.Hexes:
		return regexp.MustCompile(`[0-9a-f]` + least)
	case event.Mails:
		return regexp.MustCompile(`[A-Za-z0-9._-]+@[A-Za-z0-9._-]+`)
	case event.Literal:
		return regexp.MustCompile(regexp.QuoteMeta(r.Text))
	}
	return regexp.MustCompile(`(?s)^.+$`)
}

// plainClear is a plain reading of P4.5 and changes the event itself, but for errors.
func plainClear(e *api.Event, l []event.Rule) (hits []event.Hit) {
	for i, r := range l {
		find, times := plainFind(r), 0
		clean := func(s *string) {
			*s = find.ReplaceAllStringFunc(*s, func(part string) string {
				times++
				return []string{"", strings.Repeat("*", len(part)), event.Sum(part)}[r.Do-1]
			})
		}
		for j := range e.Faults {
			if r.Where == event.Texts {
				clean(&e.Faults[j].Text)
			}
			for k := range e.Faults[j].Frames {
				if r.Where == event.Files {
					clean(&e.Faults[j].Frames[k].File)
				}
			}
		}
		for j := range e.Tags {
			if r.Where == event.Tags && event.Matches(r.Name, e.Tags[j].Name) {
				clean(&e.Tags[j].Value)
			}
		}
		for j := range e.Crumbs {
			if r.Where == event.Crumbs && event.Matches(r.Name, e.Crumbs[j].Kind) {
				clean(&e.Crumbs[j].Text)
			}
		}
		if r.Where == event.User {
			clean(&e.User)
		}
		if times > 0 {
			hits = append(hits, event.Hit{Rule: i, Times: times})
		}
	}
	return hits
}

// randomRule is a rule without errors.
func randomRule(r *rand.Rand) event.Rule {
	rule := event.Rule{Where: 1 + r.Intn(5), Find: 1 + r.Intn(5), Do: 1 + r.Intn(3)}
	if rule.Find == event.All && r.Intn(2) == 0 {
		rule.Find = event.Mails
	}
	if rule.Where == event.Tags || rule.Where == event.Crumbs {
		rule.Name = []string{"*", "a*", "*b", "k", "*.*", "k*a", "ab"}[r.Intn(7)]
	}
	if rule.Find == event.Digits || rule.Find == event.Hexes {
		rule.Least = 1 + r.Intn(4)
	}
	if rule.Find == event.Literal {
		rule.Text = []string{"a", "aa", "aab", "1", "*", "**", "@a", ".", "c*"}[r.Intn(9)]
	}
	return rule
}

// P4.5 and what follows, with a plain reading.
func TestClearPlainly(t *testing.T) {
	r := rand.New(rand.NewSource(5))
	errors := map[api.Errno]int{}
	for range 20_000 {
		e := randomEvent(r)
		var l []event.Rule
		for range r.Intn(5) {
			l = append(l, randomRule(r))
		}
		s, _ := event.Text(e)
		want, _, _ := event.Read(s)
		hits := plainClear(&want, l)
		wrong := event.Check(want)
		got, gotHits, x := event.Clear(e, l)
		errors[x]++
		if wrong != api.OK {
			want, hits = api.Event{}, nil
		}
		if !event.Same(got, want) || !slices.Equal(gotHits, hits) || x != wrong {
			t.Fatalf("%v of\n%v:\n%v, not\n%v\n%v, not %v; %v, not %v", l, e, got, want, gotHits, hits, x, wrong)
		}
	}
	if len(errors) != 3 || errors[api.OK] < 1000 || errors[api.ErrForm] < 100 || errors[api.ErrLarge] < 100 {
		t.Error(errors)
	}
}

// What follows from P4.5.
func TestClearAgain(t *testing.T) {
	r := rand.New(rand.NewSource(7))
	masks := rules(t, "text digits 2 mask\ntext hex 3 mask\ntext mail mask\nfile mail mask\nfile hex 1 mask\ntag * digits 1 mask\ntag a* mail mask\ncrumb * hex 2 mask\nuser mail mask\n")
	blanks := rules(t, "text all blank\ntag a* all blank\ncrumb * all blank\nuser all blank\n")
	for range 2000 {
		e, _, x := event.Clear(randomEvent(r), masks)
		if x != api.OK {
			t.Fatal(x)
		}
		if f, hits, x := event.Clear(e, masks); !event.Same(e, f) || len(hits) > 0 || x != api.OK {
			t.Fatal(e, f, hits, x)
		}
		e, _, x = event.Clear(e, blanks)
		left := e.User
		for _, fault := range e.Faults {
			left += fault.Text
		}
		for _, tag := range e.Tags {
			if tag.Name[0] == 'a' {
				left += tag.Value
			}
		}
		for _, crumb := range e.Crumbs {
			left += crumb.Text
		}
		if left != "" || x != api.OK {
			t.Fatal(e, x)
		}
	}
}
