package release_test

import (
	"fmt"
	"math/rand"
	"regexp"
	"slices"
	"strconv"
	"strings"
	"testing"

	"inquest/api"
	"inquest/release"
)

// badOwner is an owner with an error.
type badOwner struct {
	name  string
	owner release.Owner
	want  api.Errno
}

// badOwners has owners with errors of all kinds; each error comes before those of the fields behind it.
func badOwners() []badOwner {
	return []badOwner{
		{"nothing", release.Owner{}, api.ErrForm},
		{"no pattern", owner("", "A"), api.ErrForm},
		{"long pattern", owner(word(200)+"\n", "A"), api.ErrLarge},
		{"byte 32", owner("a b"), api.ErrByte},
		{"byte 127", owner("\x7f", "ann"), api.ErrByte},
		{"byte 128", owner("a\x80", "ann"), api.ErrByte},
		{"nobody", owner("a"), api.ErrForm},
		{"21", owner("a", slices.Repeat([]string{""}, 21)...), api.ErrLarge},
		{"no name", owner("a", ""), api.ErrName},
		{"name", owner("a", "ann", "Bob", "ann"), api.ErrName},
		{"long name", owner("a", word(41)), api.ErrName},
		{"name of two words", owner("a", "ann b"), api.ErrName},
		{"twice", owner("a", "ann", "ann", "Bob"), api.ErrTwice},
		{"twice, but not next", owner("a", "ann", "bob", "cy", "bob"), api.ErrTwice},
	}
}

// P6.7
func TestCheckOwners(t *testing.T) {
	good := []release.Owner{owner("*.go", "ann"), owner("*.go", "ann"), owner("~"+word(199), letters(20)...), owner("!", word(40))}
	if e := release.CheckOwners(good); e != api.OK {
		t.Error(e)
	}
	for _, c := range badOwners() {
		if e := release.CheckOwners(append(good[:4:4], c.owner, release.Owner{})); e != c.want {
			t.Errorf("%s: %v, not %v", c.name, e, c.want)
		}
		if s, e := release.OwnersText([]release.Owner{good[0], c.owner}); s != "" || e != c.want {
			t.Errorf("%s: %q %v, not %v", c.name, s, e, c.want)
		}
		// Owners are asked before the path is.
		if l, e := release.OwnersOf([]release.Owner{c.owner, good[0]}, ""); len(l) > 0 || e != c.want {
			t.Errorf("%s: %v %v, not %v", c.name, l, e, c.want)
		}
	}
	full := slices.Repeat(good[:1], release.MaxOwners)
	if e := release.CheckOwners(full); e != api.OK {
		t.Error(e)
	}
	if e := release.CheckOwners(append(full, good[0])); e != api.ErrLarge {
		t.Error(e)
	}
	if e := release.CheckOwners(make([]release.Owner, 201)); e != api.ErrLarge {
		t.Error(e)
	}
	if e := release.CheckOwners(nil); e != api.OK {
		t.Error(e)
	}
}

// P6.7
func TestFits(t *testing.T) {
	for _, c := range []struct {
		pattern, path string
		want          bool
	}{
		{"src/*.go", "src/a.go", true}, {"src/*.go", "src/x/a.go", false}, {"**/a.go", "src/x/a.go", true}, {"docs/", "docs/a/b", true}, {"*.md", "docs/a.md", true},
		{"a", "a", true}, {"a", "A", false}, {"a", "b", false}, {"a", "ab", false}, {"a", "ba", false}, {"a", "", false}, {"", "", true}, {"", "a", false},
		{"*", "", true}, {"*", "a", true}, {"*/", "a", false}, {"x/*", "x/a", true}, {"x/*", "x/", true}, {"x/*", "x/a/b", false}, {"x/*", "x", false}, {"x/*/b", "x/a/b", true}, {"x/*/b", "x//b", true}, {"x/*/b", "x/b", false}, {"x/*/b", "x/a/a/b", false},
		{"x/**", "x/a/b", true}, {"x/**", "x/", true}, {"x/**", "x", false}, {"x/**/b", "x/b", false}, {"x/**/b", "x//b", true}, {"x/**/b", "x/a/a/b", true}, {"x**b", "x/a/b", true}, {"x**b", "xb", true}, {"**/a", "a", false}, {"**/a", "/a", true},
		{"x/***", "x/a/b", true}, {"x/****b", "x/a/b", true}, {"***", "", true}, {"x/*a*", "x/bab", true}, {"x/*a*", "x/b/a", false}, {"x/*?*", "x/", false}, {"x/*?*", "x/a", true},
		{"?", "a", true}, {"?", "", false}, {"?", "/", false}, {"?", "ab", false}, {"?", "?", true}, {"?", "\xff", true}, {"x/?", "x/a", true}, {"x?a", "x/a", false}, {"??", "\xc3\xa9", true}, {"x/?", "x/\xc3\xa9", false}, {"**?", "a/", false}, {"**?", "a/b", true},
		{"[a]", "a", false}, {"\\*", "\\a", true}, {"\\*", "*", false}, {".", "a", false}, {"a+", "aa", false}, {"\xff*", "\xff\x00\n", true},
		{"docs/", "docs/", true}, {"docs/", "docs", false}, {"docs/", "xdocs/a", false}, {"docs/", "x/docs/a", true}, {"docs/", "x/y/docs/", true}, {"docs/", "x/docs", false}, {"x/docs/", "x/docs/a/b", true}, {"x/docs/", "y/x/docs/a", false}, {"d*/", "x/docs/a/b", true}, {"d?/", "x/docs/a", false}, {"/docs/", "/docs/a", true}, {"/docs/", "x/docs/a", false}, {"docs//", "docs//a", true}, {"docs//", "x/docs//a", false}, {"/", "/", true}, {"/", "/a/b", true}, {"/", "a/b", false}, {"/", "a//b", true}, {"//", "//a", true}, {"//", "x///a", false}, {"**/", "a", false}, {"**/", "a/b", true},
		{"a.go", "x/a.go", true}, {"a.go", "x/y/a.go", true}, {"a.go", "xa.go", false}, {"a.go", "a.go/x", false}, {"*.go", "x.md/a.go", true}, {"*.go", "x.go/a", false}, {"a*", "x/ab", true}, {"a*", "ax/b", false}, {"a**", "x/a/b", true}, {"?", "x/a", true}, {"?", "x/", false}, {"", "a/", true}, {"", "a/b", false}, {"", "/", true}, {"*", "a/", true}, {"*", "a/b/c", true},
		{"a/b", "a/b", true}, {"a/b", "x/a/b", false}, {"/a", "/a", true}, {"/a", "a", false}, {"/a", "x/a", false}, {"/*", "x/a", false},
		{"**a*b", "x/aa/ab", true}, {"**a*b", "a/b", false}, {"**a*b", "ab/xaxb", true}, {"**a/*b**c", "a/xx/a/bcc", true}, {"**a/*b**c", "a/x/b/c", false}, {"*a*a*", "x/ba", false}, {"*a*a*", "xa/aab", true},
	} {
		if got := release.Fits(c.pattern, c.path); got != c.want {
			t.Errorf("%q %q: %v", c.pattern, c.path, got)
		}
	}
}

// plainPattern is a plain reading of P6.7 for patterns of letters, *, ? and /.
func plainPattern(pattern string) *regexp.Regexp {
	text := regexp.MustCompile(`\*+|.`).ReplaceAllStringFunc(pattern, func(s string) string {
		switch {
		case s == "*":
			return "[^/]*"
		case s[0] == '*':
			return ".*"
		case s == "?":
			return "[^/]"
		}
		return s
	})
	if regexp.MustCompile(`/\z`).MatchString(pattern) {
		text += ".*"
	}
	if regexp.MustCompile(`\A[^/]*/?\z`).MatchString(pattern) {
		text = "(.*/)?" + text
	}
	return regexp.MustCompile(`\A(?s:` + text + `)\z`)
}

// P6.7: all short patterns, and many paths.
func TestFitsAll(t *testing.T) {
	all := []string{""}
	for i := 0; len(all[i]) < 5; i++ {
		all = append(all, all[i]+"a", all[i]+"b", all[i]+"/", all[i]+"*", all[i]+"?")
	}
	r := rand.New(rand.NewSource(9))
	for _, pattern := range all {
		plain := plainPattern(pattern)
		for range 500 {
			path := all[r.Intn(len(all))] + randomFrom(r, "ab/", 6)
			if got, want := release.Fits(pattern, path), plain.MatchString(path); got != want {
				t.Fatalf("%q %q: %v", pattern, path, got)
			}
		}
	}
}

// P6.7: patterns that have more places than a word has bits.
func TestFitsLongPlainly(t *testing.T) {
	r := rand.New(rand.NewSource(10))
	fits := 0
	for range 5000 {
		pattern := ""
		for range 20 + r.Intn(30) {
			pattern += oneOf(r, "*", "**", "?", "a", "ab", "aaaaa", "ababa", "/", "a/", "b")
		}
		if r.Intn(2) == 0 { // it may begin behind any /
			pattern = strings.ReplaceAll(pattern, "/", "")
		}
		// The path is made from the pattern, so that it often fits, and then it often changes.
		path := ""
		for _, part := range regexp.MustCompile(`\*+|.`).FindAllString(pattern, -1) {
			switch {
			case part == "*":
				path += randomFrom(r, "ab", 3)
			case part[0] == '*':
				path += randomFrom(r, "ab/", 3)
			case part == "?":
				path += oneOf(r, "a", "b")
			default:
				path += part
			}
		}
		if strings.HasSuffix(pattern, "/") {
			path += randomFrom(r, "ab/", 5)
		}
		if r.Intn(2) == 0 {
			path = changed(r, path, "ab/")
		}
		if r.Intn(3) == 0 {
			path = randomFrom(r, "ab/", 9) + "/" + path
		}
		got, want := release.Fits(pattern, path), plainPattern(pattern).MatchString(path)
		if got != want {
			t.Fatalf("%q %q: %v", pattern, path, got)
		}
		if got {
			fits++
		}
	}
	if fits < 1000 || fits > 4000 {
		t.Error(fits)
	}
}

// P6.7: long patterns and paths are no reason to wait.
func TestFitsLong(t *testing.T) {
	const n = 1_000_000
	long, folders := strings.Repeat("a", n), strings.Repeat("abcdefghi/", n/10)
	for i, c := range []struct {
		pattern, path string
		want          bool
	}{
		{long, long, true}, {long + "b", long, false}, {long, long + "b", false}, {folders, folders, true}, {folders, folders + folders, true}, {folders, "x/" + folders, false}, {"x" + long, folders, false},
		{strings.Repeat("*", n), long, true}, {strings.Repeat("?", n), long, true}, {strings.Repeat("?", n), long + "a", false}, {strings.Repeat("*?", 100), long, true},
		{strings.Repeat("*a", 100), long, true}, {strings.Repeat("*a", 100) + "b", long, false}, {strings.Repeat("**a", 100) + "b", long, false}, {"**a*b", long, false}, {"**i/*b", folders, false}, {strings.Repeat("**/*", 100), folders, true},
		{long[:100], long[:70] + "/" + long[:100], true}, {long[:200] + "**b", long[:200] + "/b", true}, {long[:100] + "**b", long[:100] + "/" + long[:200] + "b", true}, {long[:100] + "*b", long[:100] + "/b", false},
		{strings.Repeat("*a", 10_000) + "b", long[:100_000], false}, {"a", folders + "a", true}, {"a", folders, false}, {"/", folders + "/", true},
	} {
		if got := release.Fits(c.pattern, c.path); got != c.want {
			t.Errorf("%d: %v", i, got)
		}
	}
}

// P6.7
func TestOwnersOf(t *testing.T) {
	l := []release.Owner{owner("*.go", "ann"), owner("src/", "bob", "cy"), owner("src/x/**/*.go", "dan"), owner("docs/*", "eve"), owner("src/a?.go", "b", "a")}
	for _, c := range []struct {
		path string
		who  []string
		e    api.Errno
	}{
		{"a.go", []string{"ann"}, api.OK}, {"x/y/a.go", []string{"ann"}, api.OK}, {"src/a.go", []string{"bob", "cy"}, api.OK}, {"src/x/a.go", []string{"bob", "cy"}, api.OK}, {"src/x/y/a.go", []string{"dan"}, api.OK}, {"docs/a", []string{"eve"}, api.OK}, {"src/ab.go", []string{"b", "a"}, api.OK}, {"src/docs/a.go", []string{"bob", "cy"}, api.OK}, {"\xff\n.go", []string{"ann"}, api.OK}, {word(197) + ".go", []string{"ann"}, api.OK},
		{"a.md", nil, api.ErrNone}, {"docs/x/a", nil, api.ErrNone}, {"src", nil, api.ErrNone}, {word(200), nil, api.ErrNone},
		{"", nil, api.ErrForm}, {word(198) + ".go", nil, api.ErrLarge}, {word(1_000_000), nil, api.ErrLarge},
	} {
		if who, e := release.OwnersOf(l, c.path); !slices.Equal(who, c.who) || e != c.e {
			t.Errorf("%.20q: %v %v", c.path, who, e)
		}
	}
	for path, want := range map[string]api.Errno{"a": api.ErrNone, "": api.ErrForm, word(201): api.ErrLarge} {
		if who, e := release.OwnersOf(nil, path); len(who) > 0 || e != want {
			t.Error(who, e)
		}
	}
}

// P6.7
func TestOwnersText(t *testing.T) {
	l := []release.Owner{owner("*.go", "ann"), owner("src/", "bob", "cy-1.x_"), owner("a?/**", "ann")}
	const text = "*.go ann\nsrc/ bob cy-1.x_\na?/** ann\n"
	if s, e := release.OwnersText(l); s != text || e != api.OK {
		t.Error(s, e)
	}
	if got, n, e := release.ReadOwners(text); fmt.Sprint(got) != fmt.Sprint(l) || n != 0 || e != api.OK {
		t.Error(got, n, e)
	}
	if s, e := release.OwnersText(nil); s != "" || e != api.OK {
		t.Error(s, e)
	}
	if l, n, e := release.ReadOwners(""); len(l) > 0 || n != 0 || e != api.OK {
		t.Error(l, n, e)
	}
	var who []string
	for _, s := range letters(20) {
		who = append(who, s+word(37))
	}
	largest := slices.Repeat([]release.Owner{owner(word(200), who...)}, release.MaxOwners)
	s, e := release.OwnersText(largest)
	if len(s) != 200*(200+20*41+1) || e != api.OK {
		t.Error(len(s), e)
	}
	if got, n, e := release.ReadOwners(s); fmt.Sprint(got) != fmt.Sprint(largest) || n != 0 || e != api.OK {
		t.Error(len(got), n, e)
	}
}

// P6.7: what is of no form, and errors of what is.
func TestReadOwnersErrors(t *testing.T) {
	for _, line := range []string{"", " ", "a", "a ", " a", " ann b", "a  ann", "a ann ", "a ann  b", "  ", "a\tann"} {
		for before, want := range map[string]int{"": 1, "a ann\n": 2, "a A\n\x00 a\n": 3} {
			if l, n, e := release.ReadOwners(before + line + "\nx\n"); len(l) > 0 || n != want || e != api.ErrSyntax {
				t.Errorf("%q: %v %d %v", before+line, l, n, e)
			}
		}
	}
	for s, want := range map[string]int{"a ann": 1, "a ann\nb bob": 2, "a": 1, "a ann\n\n": 2, "\n": 1, "a ann\n ": 2, strings.Repeat("a ann\n", 300) + "x": 301, strings.Repeat("\n", 1_000_000): 1, strings.Repeat("a", 1_000_000): 1, strings.Repeat(" ", 999_999) + "\n": 1} {
		if l, n, e := release.ReadOwners(s); len(l) > 0 || n != want || e != api.ErrSyntax {
			t.Errorf("%.20q: %v %d %v", s, l, n, e)
		}
	}
	for s, want := range map[string]api.Errno{
		strings.Repeat("\n", 1_000_001): api.ErrLarge, strings.Repeat("a ann\n", 200_000): api.ErrLarge, strings.Repeat("a ann\n", 201): api.ErrLarge, word(201) + " ann\n": api.ErrLarge, "a" + strings.Repeat(" b", 21) + "\n": api.ErrLarge,
		"a Ann\n": api.ErrName, "a ann,bob\n": api.ErrName, "a ann\r\n": api.ErrName, "a ann ann\n": api.ErrTwice, "\x80 ann\n": api.ErrByte, "a\tb ann\n": api.ErrByte, "a A\n\x80 ann\n": api.ErrName,
	} {
		if l, n, e := release.ReadOwners(s); len(l) > 0 || n != 0 || e != want {
			t.Errorf("%.20q: %v %d %v, not %v", s, l, n, e, want)
		}
	}
}

// P6.7: ReadOwners reads just what OwnersText writes.
func TestReadOwnersExact(t *testing.T) {
	r := rand.New(rand.NewSource(11))
	read := 0
	for range 50_000 {
		var l []release.Owner
		for range r.Intn(4) {
			o := owner("/" + randomFrom(r, "a*?/~!", 4))
			for i := range 1 + r.Intn(3) {
				o.Who = append(o.Who, oneOf(r, "ann", "b-", "c.")+strconv.Itoa(i))
			}
			l = append(l, o)
		}
		s, e := release.OwnersText(l)
		if e != api.OK {
			t.Fatal(l, e)
		}
		if got, n, e := release.ReadOwners(s); fmt.Sprint(got) != fmt.Sprint(l) || n != 0 || e != api.OK {
			t.Fatalf("%q: %v %d %v", s, got, n, e)
		}
		other := changed(r, s, "a1* \n\n")
		got, n, e := release.ReadOwners(other)
		if e == api.OK {
			read++
			if again, _ := release.OwnersText(got); again != other {
				t.Fatalf("%q is read as %q", other, again)
			}
		}
		if (e == api.ErrSyntax) != (n > 0) || n > strings.Count(other, "\n")+1 {
			t.Fatalf("%q: %d %v", other, n, e)
		}
	}
	if read < 1000 {
		t.Error(read)
	}
}
