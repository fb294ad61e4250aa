package release_test

import (
	"fmt"
	"math"
	"math/rand"
	"regexp"
	"slices"
	"strconv"
	"strings"
	"testing"

	"inquest/api"
	"inquest/release"
)

// P6.1
func TestParse(t *testing.T) {
	for _, c := range []struct {
		text string
		want release.Version
	}{
		{"app-1.2.3", release.Version{Project: "app", Major: 1, Minor: 2, Patch: 3}},
		{"a-0.0.0", release.Version{Project: "a"}},
		{"a-999999.999999.999999", release.Version{Project: "a", Major: 999_999, Minor: 999_999, Patch: 999_999}},
		{"a-b-1.2.3", release.Version{Project: "a-b", Major: 1, Minor: 2, Patch: 3}},
		{"a-1-2.3.4", release.Version{Project: "a-1", Major: 2, Minor: 3, Patch: 4}},
		{"a--1.2.3", release.Version{Project: "a-", Major: 1, Minor: 2, Patch: 3}},
		{"a_9-1.2.3", release.Version{Project: "a_9", Major: 1, Minor: 2, Patch: 3}},
		{"app-1.2.3-4.5.6", release.Version{Project: "app", Major: 1, Minor: 2, Patch: 3, Pre: []string{"4", "5", "6"}}},
		{"app-1.2.3-rc", release.Version{Project: "app", Major: 1, Minor: 2, Patch: 3, Pre: []string{"rc"}}},
		{"app-1.2.3-0.0a.a0.x.999999", release.Version{Project: "app", Major: 1, Minor: 2, Patch: 3, Pre: []string{"0", "0a", "a0", "x", "999999"}}},
		{"app-1.2.3-00a.1234567b", release.Version{Project: "app", Major: 1, Minor: 2, Patch: 3, Pre: []string{"00a", "1234567b"}}},
		{word(34) + "-1.2.3", release.Version{Project: word(34), Major: 1, Minor: 2, Patch: 3}},
		{"a-1.2.3-" + word(32), release.Version{Project: "a", Major: 1, Minor: 2, Patch: 3, Pre: []string{word(32)}}},
	} {
		v, e := release.Parse(c.text)
		if fmt.Sprint(v) != fmt.Sprint(c.want) || e != api.OK {
			t.Errorf("%q: %v %v", c.text, v, e)
		}
		if s, e := release.Text(c.want); s != c.text || e != api.OK {
			t.Errorf("%v: %q %v", c.want, s, e)
		}
	}
}

// P6.1: what is no release.
func TestParseErrors(t *testing.T) {
	for _, s := range []string{
		"", "-", ".", "a", "a-", "a.", "a-1", "a-1.", "a-1.2", "a-1.2.", "a1.2.3", "a1-2.3", "1.2.3", "-1.2.3", "1-1.2.3", "_-1.2.3", "a-.2.3", "a-1..3", "a-1.2.-", "a-..", "a-...",
		"A-1.2.3", "aB-1.2.3", "a b-1.2.3", "a.b-1.2.3", "a*-1.2.3", "\xc3\xa9-1.2.3", "a\x00-1.2.3",
		"a-01.2.3", "a-1.02.3", "a-1.2.03", "a-00.0.0", "a-+1.2.3", "a-1.+2.3", "a-1.2.-3", "a-1.2.3 ", " a-1.2.3", "a-1.2.3\n", "a-1_0.2.3", "a-1.2.x", "a-1.2.3x", "a-x.2.3", "a-1x.2.3", "a-1.x.3", "a-1.2.3_",
		"a-1000000.0.0", "a-0.1000000.0", "a-0.0.1000000", "a-0.0.99999999999999999999999",
		"a-1.2.3.4", "a-1.2.3.", "a-1.2.3-", "a-1.2.3-.", "a-1.2.3-a.", "a-1.2.3-.a", "a-1.2.3-a..b", "a-1.2.3--a", "a-1.2.3-a-b", "a-1.2.3-a_b", "a-1.2.3-A", "a-1.2.3-a b", "a-1.2.3-a+b", "a-1.2.3+a", "a-1.2.3-\xff",
		"a-1.2.3-01", "a-1.2.3-00", "a-1.2.3-a.01", "a-1.2.3-1000000", "a-1.2.3-a.0000001", "a-1.2.3-a.b.c.d.e.f", "a-1.2.3-1.2.3.4.5.6", "a-1-2.3", "a-1-2.3.4.5",
		word(35) + "-1.2.3", "a-1.2.3-" + word(33), word(40) + "-1.2.3", word(1_000_000), "a-1.2.3-" + strings.Repeat("1.", 500_000) + "1",
	} {
		if v, e := release.Parse(s); fmt.Sprint(v) != fmt.Sprint(release.Version{}) || e != api.ErrSyntax {
			t.Errorf("%.50q: %v %v", s, v, e)
		}
	}
}

// plainRelease is the form of P6.1, but for the length.
var plainRelease = func() *regexp.Regexp {
	number := `(0|[1-9][0-9]{0,5})`
	part := `(?:` + number + `|[0-9]*[a-z][a-z0-9]*)`
	return regexp.MustCompile(`\A([a-z][a-z0-9_-]*)-` + number + `\.` + number + `\.` + number + `(?:-(` + part + `(?:\.` + part + `){0,4}))?\z`)
}()

// P6.1: plain readings of strings that are releases, or nearly.
func TestParsePlainly(t *testing.T) {
	r := rand.New(rand.NewSource(1))
	right := 0
	for range 300_000 {
		s := randomFrom(r, "a1-.", 12)
		if r.Intn(3) > 0 {
			s = changed(r, randomRelease(r), "a019-._A")
		}
		m := plainRelease.FindStringSubmatch(s)
		v, e := release.Parse(s)
		if m == nil || len(s) > 40 {
			if e != api.ErrSyntax {
				t.Fatalf("%q: %v %v", s, v, e)
			}
			continue
		}
		right++
		want := release.Version{Project: m[1]}
		want.Major, _ = strconv.Atoi(m[2])
		want.Minor, _ = strconv.Atoi(m[3])
		want.Patch, _ = strconv.Atoi(m[4])
		if m[5] != "" {
			want.Pre = strings.Split(m[5], ".")
		}
		if fmt.Sprint(v) != fmt.Sprint(want) || e != api.OK {
			t.Fatalf("%q: %v %v", s, v, e)
		}
		if text, e := release.Text(v); text != s || e != api.OK {
			t.Fatalf("%q: %q %v", s, text, e)
		}
	}
	if right < 10_000 {
		t.Error(right)
	}
}

// P6.1: errors of Text, each before those behind it.
func TestTextErrors(t *testing.T) {
	good := func(change func(v *release.Version)) release.Version {
		v := release.Version{Project: "app", Major: 1, Minor: 2, Patch: 3, Pre: []string{"rc", "1"}}
		change(&v)
		return v
	}
	part := func(s string) release.Version {
		return good(func(v *release.Version) { v.Pre[1] = s })
	}
	for _, c := range []struct {
		version release.Version
		want    api.Errno
	}{
		{release.Version{}, api.ErrName},
		{release.Version{Project: "A", Major: -1}, api.ErrName},
		{good(func(v *release.Version) { v.Project = "a.b" }), api.ErrName},
		{good(func(v *release.Version) { v.Project = "1" }), api.ErrName},
		{good(func(v *release.Version) { v.Project = "a b" }), api.ErrName},
		{good(func(v *release.Version) { v.Project = word(41) }), api.ErrName},
		{good(func(v *release.Version) { v.Project = word(1_000_000) }), api.ErrName},
		{good(func(v *release.Version) { v.Major = -1 }), api.ErrRange},
		{good(func(v *release.Version) { v.Minor = -1 }), api.ErrRange},
		{good(func(v *release.Version) { v.Patch = math.MinInt }), api.ErrRange},
		{good(func(v *release.Version) { v.Major = 1_000_000 }), api.ErrRange},
		{good(func(v *release.Version) { v.Minor = math.MaxInt }), api.ErrRange},
		{good(func(v *release.Version) { v.Patch, v.Pre = 1_000_000, make([]string, 6) }), api.ErrRange},
		{good(func(v *release.Version) { v.Pre = make([]string, 6) }), api.ErrLarge},
		{good(func(v *release.Version) { v.Pre = slices.Repeat([]string{"a"}, 6) }), api.ErrLarge},
		{part(""), api.ErrSyntax}, {part("A"), api.ErrSyntax}, {part("a.b"), api.ErrSyntax}, {part("a-b"), api.ErrSyntax}, {part("a_b"), api.ErrSyntax}, {part("01"), api.ErrSyntax}, {part("1000000"), api.ErrSyntax}, {part("-1"), api.ErrSyntax}, {part("\x80"), api.ErrSyntax}, {part(word(100) + " "), api.ErrSyntax},
		{part(word(100)), api.ErrLarge}, {part(word(28)), api.ErrLarge}, {part(word(1_000_000)), api.ErrLarge},
		{good(func(v *release.Version) { v.Project = word(40) }), api.ErrLarge},
		{release.Version{Project: word(35)}, api.ErrLarge},
	} {
		if s, e := release.Text(c.version); s != "" || e != c.want {
			t.Errorf("%.100v: %q %v, not %v", c.version, s, e, c.want)
		}
	}
	for _, v := range []release.Version{part(word(27)), {Project: word(34)}, good(func(v *release.Version) { v.Pre = []string{} })} {
		s, e := release.Text(v)
		if back := parsed(t, s); fmt.Sprint(back) != fmt.Sprint(v) || e != api.OK {
			t.Error(v, s, e)
		}
	}
}

// P6.2: each one is less than those behind it.
func TestCompare(t *testing.T) {
	ladder := []string{
		"a-999999.999999.999999", "a--0.0.0", "a0-0.0.0",
		"app-0.0.0-0", "app-0.0.0", "app-0.0.1", "app-0.0.9", "app-0.0.10", "app-0.1.0-z", "app-0.1.0", "app-0.2.0", "app-0.10.0",
		"app-1.0.0-0", "app-1.0.0-0.0", "app-1.0.0-1", "app-1.0.0-1.a", "app-1.0.0-2", "app-1.0.0-10", "app-1.0.0-999999", "app-1.0.0-00a", "app-1.0.0-0a", "app-1.0.0-1a",
		"app-1.0.0-a", "app-1.0.0-a.0", "app-1.0.0-a.0.0", "app-1.0.0-a.1", "app-1.0.0-a.b", "app-1.0.0-a.b.1", "app-1.0.0-a0", "app-1.0.0-aa", "app-1.0.0-b", "app-1.0.0-rc.2", "app-1.0.0-rc.10", "app-1.0.0",
		"app-1.0.1-a", "app-2.0.0", "app-10.0.0", "app--0.0.0", "apq-0.0.0", "b-0.0.0",
	}
	for i, a := range ladder {
		for j, b := range ladder {
			want := 0
			if i < j {
				want = -1
			} else if i > j {
				want = 1
			}
			if c := release.Compare(parsed(t, a), parsed(t, b)); c != want {
				t.Errorf("%s %s: %d", a, b, c)
			}
		}
	}
}

// P6.2: versions that are not right are compared, too.
func TestCompareWrong(t *testing.T) {
	pre := func(l ...string) release.Version { return release.Version{Pre: l} }
	for _, c := range []struct {
		a, b release.Version
		want int
	}{
		{release.Version{}, release.Version{}, 0},
		{release.Version{Major: math.MinInt}, release.Version{Major: math.MaxInt}, -1},
		{release.Version{Minor: math.MinInt}, release.Version{Minor: math.MaxInt}, -1},
		{release.Version{Patch: math.MaxInt}, release.Version{Patch: math.MinInt}, 1},
		{release.Version{Project: "A"}, release.Version{Project: "a"}, -1},
		{release.Version{Project: "\xff"}, release.Version{Project: "a", Major: 9}, 1},
		{release.Version{Pre: []string{}}, release.Version{}, 0},
		{pre("1"), pre("01"), 0}, {pre("000001"), pre("1"), 0}, {pre("01", "a"), pre("1", "b"), -1}, {pre("00"), pre("0"), 0}, {pre("000010"), pre("9"), 1},
		{pre("0000001"), pre("999999"), 1}, {pre("0000001"), pre("1000000"), -1}, {pre("0000001"), pre("a"), -1}, {pre("1000000"), pre("9999999"), -1}, {pre("10000000"), pre("2000000"), -1},
		{pre(""), pre("0"), 1}, {pre(""), pre("a"), -1}, {pre(""), pre(""), 0}, {pre("", ""), pre(""), 1}, {pre(""), release.Version{}, -1},
		{pre("-1"), pre("5"), 1}, {pre("+1"), pre("5"), 1}, {pre("1_0"), pre("5"), 1}, {pre("A"), pre("a"), -1}, {pre("\xff"), pre("z"), 1}, {pre(word(1_000_000)), pre(word(1_000_001)), -1},
		{pre("a", "b", "c", "d", "e", "f", "1"), pre("a", "b", "c", "d", "e", "f", "2"), -1},
		{pre("9"), pre("x", "y"), -1}, {pre("1", "x"), pre("1", "2", "3"), 1},
	} {
		if got := release.Compare(c.a, c.b); got != c.want {
			t.Errorf("%.50v %.50v: %d", c.a, c.b, got)
		}
		if got := release.Compare(c.b, c.a); got != -c.want {
			t.Errorf("%.50v %.50v: %d", c.b, c.a, got)
		}
	}
}

// P6.2: Compare is an order of right versions.
func TestCompareOrder(t *testing.T) {
	r := rand.New(rand.NewSource(2))
	for range 50_000 {
		a, b, c := randomRelease(r), randomRelease(r), randomRelease(r)
		x, y, z := parsed(t, a), parsed(t, b), parsed(t, c)
		if release.Compare(x, y) != -release.Compare(y, x) || (release.Compare(x, y) == 0) != (a == b) {
			t.Fatal(a, b)
		}
		if release.Compare(x, y) <= 0 && release.Compare(y, z) <= 0 && release.Compare(x, z) > 0 {
			t.Fatal(a, b, c)
		}
	}
}

// P6.2
func TestSorted(t *testing.T) {
	for _, c := range []struct{ l, want []string }{
		{nil, nil},
		{[]string{"a-1.0.0"}, []string{"a-1.0.0"}},
		{[]string{"a-1.0.0", "a-1.0.0", "a-1.0.0"}, []string{"a-1.0.0"}},
		{[]string{"app-1.2.0", "app-1.10.0", "app-1.2.0-rc.2", "app-1.2.0-rc.10"}, []string{"app-1.2.0-rc.2", "app-1.2.0-rc.10", "app-1.2.0", "app-1.10.0"}},
		{[]string{"b-1.0.0", "a-2.0.0", "b-0.0.1", "a-2.0.0", "b-1.0.0"}, []string{"a-2.0.0", "b-0.0.1", "b-1.0.0"}},
	} {
		if l, e := release.Sorted(c.l); !slices.Equal(l, c.want) || e != api.OK {
			t.Error(c.l, l, e)
		}
	}
}

// P6.2
func TestLatest(t *testing.T) {
	l := []string{"app-1.0.0", "app-1.1.0-rc.1", "app-1.0.9", "apq-7.0.0", "pre-1.0.0-a", "pre-1.0.0-b", "a-9.0.0", "app-1.0.9"}
	for _, c := range []struct {
		project string
		pre     bool
		want    string
		e       api.Errno
	}{
		{"app", false, "app-1.0.9", api.OK}, {"app", true, "app-1.1.0-rc.1", api.OK}, {"apq", true, "apq-7.0.0", api.OK}, {"a", false, "a-9.0.0", api.OK}, {"pre", true, "pre-1.0.0-b", api.OK},
		{"pre", false, "", api.ErrNone}, {"ap", true, "", api.ErrNone}, {"app-", true, "", api.ErrNone}, {word(40), true, "", api.ErrNone},
		{"", true, "", api.ErrName}, {"App", true, "", api.ErrName}, {"app.x", true, "", api.ErrName}, {"1", true, "", api.ErrName}, {word(41), true, "", api.ErrName}, {"app ", true, "", api.ErrName},
	} {
		if s, e := release.Latest(l, c.project, c.pre); s != c.want || e != c.e {
			t.Errorf("%q %v: %q %v", c.project, c.pre, s, e)
		}
	}
	if s, e := release.Latest(nil, "app", true); s != "" || e != api.ErrNone {
		t.Error(s, e)
	}
	if s, e := release.Latest(nil, "app.", true); s != "" || e != api.ErrName {
		t.Error(s, e)
	}
}

// P6.2
func TestAfter(t *testing.T) {
	l := []string{"app-2.0.0", "app-1.2.0", "app-1.1.0-rc.1", "app-1.0.0", "apq-0.0.1", "app-1.2.0", "app-1.3.0-a"}
	for _, c := range []struct {
		s, want string
		e       api.Errno
	}{
		{"app-0.0.0", "app-1.0.0", api.OK}, {"app-1.0.0", "app-1.2.0", api.OK}, {"app-1.0.0-rc", "app-1.0.0", api.OK}, {"app-1.1.0-rc.1", "app-1.2.0", api.OK}, {"app-1.2.0", "app-2.0.0", api.OK}, {"app-1.9.9", "app-2.0.0", api.OK}, {"apq-0.0.0", "apq-0.0.1", api.OK},
		{"app-2.0.0", "", api.ErrNone}, {"apq-0.0.1", "", api.ErrNone}, {"b-0.0.0", "", api.ErrNone}, {"ap-0.0.0", "", api.ErrNone},
		{"", "", api.ErrSyntax}, {"app", "", api.ErrSyntax}, {"app-1.0", "", api.ErrSyntax},
	} {
		if s, e := release.After(l, c.s); s != c.want || e != c.e {
			t.Errorf("%q: %q %v", c.s, s, e)
		}
	}
	if s, e := release.After(nil, "a-1.0.0"); s != "" || e != api.ErrNone {
		t.Error(s, e)
	}
}

// P6.2: plain readings, by all that are greater or less.
func TestListsPlainly(t *testing.T) {
	r := rand.New(rand.NewSource(3))
	for range 20_000 {
		l, s, pre := randomReleases(r, 12), randomRelease(r), r.Intn(2) == 0
		less := func(a, b string) bool { return release.Compare(parsed(t, a), parsed(t, b)) < 0 }
		sorted, e := release.Sorted(l)
		if e != api.OK || len(sorted) > len(l) {
			t.Fatal(l, sorted, e)
		}
		for i, x := range sorted {
			if !slices.Contains(l, x) || i > 0 && !less(sorted[i-1], x) {
				t.Fatal(l, sorted)
			}
		}
		latest, after := "", ""
		for _, x := range l {
			if !slices.Contains(sorted, x) {
				t.Fatal(l, sorted)
			}
			final := len(parsed(t, x).Pre) == 0
			if x[0] == s[0] && (final || pre) && (latest == "" || less(latest, x)) {
				latest = x
			}
			if x[0] == s[0] && final && less(s, x) && (after == "" || less(x, after)) {
				after = x
			}
		}
		if got, e := release.Latest(l, s[:1], pre); got != latest || (e == api.OK) != (latest != "") {
			t.Fatal(l, s, pre, got, e)
		}
		if got, e := release.After(l, s); got != after || (e == api.OK) != (after != "") {
			t.Fatal(l, s, got, e)
		}
	}
}

// P6.2: errors of what is in lists, and of their lengths.
func TestListErrors(t *testing.T) {
	full := slices.Repeat([]string{"a-1.0.0"}, api.MaxEvents)
	for _, c := range []struct {
		l    []string
		want api.Errno
	}{
		{full, api.OK}, {append(full[:len(full):len(full)], "a-1.0.0"), api.ErrLarge}, {make([]string, api.MaxEvents+1), api.ErrLarge}, {[]string{""}, api.ErrSyntax}, {[]string{"a-1.0.0", "x"}, api.ErrSyntax}, {append(full[:len(full)-1:len(full)-1], "x"), api.ErrSyntax},
	} {
		if l, e := release.Sorted(c.l); e != c.want || e != api.OK && len(l) > 0 {
			t.Error(len(c.l), l, e)
		}
		if s, e := release.Latest(c.l, "a", true); e != c.want || e != api.OK && s != "" {
			t.Error(len(c.l), s, e)
		}
		if s, e := release.After(c.l, "a-0.0.0"); e != c.want || e != api.OK && s != "" {
			t.Error(len(c.l), s, e)
		}
		if c.want == api.OK {
			continue
		}
		// What is asked for comes behind the list.
		if _, e := release.Latest(c.l, "", true); e != c.want {
			t.Error(len(c.l), e)
		}
		if _, e := release.After(c.l, ""); e != c.want {
			t.Error(len(c.l), e)
		}
	}
}
