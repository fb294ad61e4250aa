package release_test

import (
	"math/rand"
	"slices"
	"strconv"
	"strings"
	"testing"

	"inquest/api"
	"inquest/release"
)

// badCommit is a commit with an error.
type badCommit struct {
	name   string
	commit release.Commit
	want   api.Errno
}

// badCommits has commits with errors of all kinds; each error comes before those of the fields behind it.
func badCommits() []badCommit {
	files := func(l ...string) release.Commit {
		return commit(func(c *release.Commit) { c.Id, c.Files = "c2", l })
	}
	return []badCommit{
		{"nothing", release.Commit{}, api.ErrName},
		{"no id", commit(func(c *release.Commit) { c.Id, c.Release = "", "" }), api.ErrName},
		{"id", commit(func(c *release.Commit) { c.Id = "1a" }), api.ErrName},
		{"long id", commit(func(c *release.Commit) { c.Id = word(41) }), api.ErrName},
		{"no author", commit(func(c *release.Commit) { c.Author, c.Release = "", "x" }), api.ErrName},
		{"author", commit(func(c *release.Commit) { c.Author = "Ann" }), api.ErrName},
		{"author of an id that was", commit(func(c *release.Commit) { c.Author = "a b" }), api.ErrName},
		{"id that was", commit(func(c *release.Commit) { c.Release = "x" }), api.ErrTwice},
		{"no release", commit(func(c *release.Commit) { c.Id, c.Release, c.Files = "c2", "", make([]string, 101) }), api.ErrSyntax},
		{"release", commit(func(c *release.Commit) { c.Id, c.Release = "c2", "app-1.0" }), api.ErrSyntax},
		{"files", files(make([]string, 101)...), api.ErrLarge},
		{"empty file", files("a", "", "\n"), api.ErrForm},
		{"long file", files(word(200) + "\n"), api.ErrLarge},
		{"byte 32", files("a b"), api.ErrByte},
		{"byte 127", files("a\x7f"), api.ErrByte},
		{"byte 128", files("\x80"), api.ErrByte},
		{"order", files("b", "a", ""), api.ErrOrder},
		{"byte before order", files("b", "a\n"), api.ErrByte},
		{"twice", files("a", "a"), api.ErrOrder},
		{"order of bytes", files("a", "B"), api.ErrOrder},
	}
}

// P6.6
func TestCheckCommits(t *testing.T) {
	first := commit(func(c *release.Commit) {})
	largest := release.Commit{Id: word(40), Author: word(40), Release: "a-1.0.0", Files: []string{"!" + word(199), "~"}}
	for len(largest.Files) < release.MaxPaths {
		largest.Files = append(largest.Files, "~"+letters(200)[len(largest.Files)])
	}
	if e := release.CheckCommits([]release.Commit{first, {Id: "c2", Author: "ann", Release: "a-1.0.0-a"}, largest}); e != api.OK {
		t.Error(e)
	}
	for _, c := range badCommits() {
		if e := release.CheckCommits([]release.Commit{first, c.commit, {}}); e != c.want {
			t.Errorf("%s: %v, not %v", c.name, e, c.want)
		}
	}
	var l []release.Commit
	for i := range release.MaxCommits {
		l = append(l, commit(func(c *release.Commit) { c.Id = "c" + strconv.Itoa(i) }))
	}
	if e := release.CheckCommits(l); e != api.OK {
		t.Error(e)
	}
	if e := release.CheckCommits(append(l, release.Commit{})); e != api.ErrLarge {
		t.Error(e)
	}
	if e := release.CheckCommits(append(l[:499:499], first, l[0])); e != api.ErrLarge {
		t.Error(e)
	}
	if e := release.CheckCommits(append(l[:499:499], l[0])); e != api.ErrTwice {
		t.Error(e)
	}
	if e := release.CheckCommits(nil); e != api.OK {
		t.Error(e)
	}
}

// suspected are the suspects of faults in app-1.0.0 by commits with these files, as words.
func suspected(t *testing.T, faults []api.Fault, files ...[]string) string {
	t.Helper()
	var l []release.Commit
	for i, f := range files {
		l = append(l, release.Commit{Id: "c" + strconv.Itoa(i), Author: "ann", Release: "app-1.0.0", Files: f})
	}
	suspects, e := release.Suspects(faults, l, nil, "app-1.0.0")
	if e != api.OK {
		t.Fatal(e)
	}
	return words(suspects)
}

func words(l []release.Suspect) string {
	var r []string
	for _, s := range l {
		r = append(r, s.Commit+" "+strconv.Itoa(s.Points))
	}
	return strings.Join(r, ", ")
}

// P6.6: which files are those of a frame.
func TestSuspectsFiles(t *testing.T) {
	for _, c := range []struct {
		frame, file string
		want        string
	}{
		{"a.go", "a.go", "c0 100"}, {"src/a.go", "a.go", "c0 100"}, {"x/src/a.go", "src/a.go", "c0 100"}, {"/a.go", "a.go", "c0 100"}, {"/src/a.go", "/src/a.go", "c0 100"}, {"a.go", "src/a.go", "c0 100"}, {"src/a.go", "x/src/a.go", "c0 100"}, {"a.go", "/a.go", "c0 100"}, {"//a", "/a", "c0 100"}, {"src/", "x/src/", "c0 100"},
		{"a.go", "b.go", ""}, {"ba.go", "a.go", ""}, {"a.go", "ba.go", ""}, {"src/a.go", "a.g", ""}, {"a.go/x", "a.go", ""}, {"a.go", "a.go/", ""}, {"A.go", "a.go", ""}, {"x/a.go", "y/a.go", ""}, {"src/a.go", "rc/a.go", ""}, {"*", "a.go", ""}, {"a.go", "*", ""}, {"", "a/", ""}, {"", "/", ""}, {"a.go", "src/", ""},
	} {
		if got := suspected(t, trace([]api.Frame{own(c.frame)}), []string{c.file}); got != c.want {
			t.Errorf("%q %q: %s", c.frame, c.file, got)
		}
		if got := suspected(t, trace([]api.Frame{lib(c.frame)}), []string{c.file}); got != "" {
			t.Errorf("%q %q of a library: %s", c.frame, c.file, got)
		}
	}
}

// P6.6: how many points there are.
func TestSuspectsPoints(t *testing.T) {
	row := func(l ...string) (frames []api.Frame) {
		for _, file := range l {
			if file == "-" {
				frames = append(frames, lib("a"))
			} else {
				frames = append(frames, own(file))
			}
		}
		return frames
	}
	hundreds := append(slices.Repeat(row("b"), 98), row("a", "a", "a", "c", "x/c")...)
	for i, c := range []struct {
		faults []api.Fault
		files  [][]string
		want   string
	}{
		{trace(row("a")), [][]string{{"a"}, nil, {"b"}, {"a", "b"}}, "c0 100, c3 100"},
		{trace(row("-", "a", "-", "b")), [][]string{{"b"}, {"a"}, {"a", "b"}}, "c2 150, c1 100, c0 50"},
		{trace(row("x", "", "a")), [][]string{{"a"}}, "c0 33"},
		{trace(row("a", "a", "a", "a", "a", "a", "a")), [][]string{{"a"}}, "c0 " + strconv.Itoa(100+50+33+25+20+16+14)},
		{trace(row("src/a")), [][]string{{"a", "src/a", "x/src/a"}}, "c0 100"},
		{trace(row("b", "a"), nil, row("-", "a"), row("b")), [][]string{{"a"}, {"b"}}, "c1 125, c0 83"},
		{trace(row("-"), row("a")), [][]string{{"a"}}, "c0 100"},
		{trace(hundreds), [][]string{{"a"}, {"c"}}, "c0 3, c1 2"},
		{trace(row("-", "-")), [][]string{{"a"}}, ""},
		{trace(nil), [][]string{{"a"}}, ""},
		{trace(row("a")), nil, ""},
		{trace(slices.Repeat(row("a"), 200), slices.Repeat(row("b"), 200)), [][]string{{"b"}, {"c"}}, "c0 200"},
	} {
		if got := suspected(t, c.faults, c.files...); got != c.want {
			t.Errorf("%d: %s, not %s", i, got, c.want)
		}
	}
}

// P6.6: which commits are asked.
func TestSuspectsReleases(t *testing.T) {
	faults := trace([]api.Frame{own("a")})
	in := func(l ...string) (commits []release.Commit) {
		for i, s := range l {
			commits = append(commits, release.Commit{Id: "c" + strconv.Itoa(i), Author: "ann", Release: s, Files: []string{"a"}})
		}
		return commits
	}
	commits := in("app-0.9.0", "app-1.0.0", "app-1.1.0-rc.1", "app-1.1.0", "app-1.2.0-rc.1", "app-1.2.0", "app-1.10.0", "ap-1.2.0", "apq-1.2.0", "app--1.2.0")
	for _, c := range []struct {
		releases string
		first    string
		want     string
	}{
		{"", "app-1.2.0", "c0 c1 c2 c3 c4 c5"},
		{"app-1.2.0", "app-1.2.0", "c0 c1 c2 c3 c4 c5"},
		{"app-1.10.0 app-1.2.0 apq-1.1.0 ap-1.1.0", "app-1.2.0", "c0 c1 c2 c3 c4 c5"},
		{"app-1.1.0", "app-1.2.0", "c4 c5"},
		{"app-1.0.0 app-1.1.0 app-0.1.0", "app-1.2.0", "c4 c5"},
		{"app-1.0.0 app-1.1.0 app-1.2.0 app-1.10.0", "app-1.10.0", "c6"},
		{"app-1.0.0 app-1.1.0 app-1.2.0-rc.1", "app-1.2.0", "c5"},
		{"app-1.0.0 app-1.1.0 app-1.2.0-rc.1", "app-1.2.0-rc.1", "c4"},
		{"app-1.0.0", "app-1.0.5", ""},
		{"app-0.9.0", "app-1.1.0-rc.1", "c1 c2"},
		{"app-0.0.1", "app-0.9.0", "c0"},
		{"", "app-0.8.9", ""},
		{"app-1.1.0", "apq-1.2.0", "c8"},
		{"", "b-1.0.0", ""},
	} {
		l, e := release.Suspects(faults, commits, strings.Fields(c.releases), c.first)
		var got []string
		for _, s := range l {
			got = append(got, s.Commit)
		}
		if strings.Join(got, " ") != c.want || e != api.OK {
			t.Errorf("%s; %s: %v %v", c.releases, c.first, l, e)
		}
	}
}

// plainPoints is a plain reading of P6.6 for a commit.
func plainPoints(c release.Commit, faults []api.Fault) int {
	points, number := 0, 0
	for _, fault := range faults {
		for _, frame := range fault.Frames {
			if !frame.Own {
				continue
			}
			is := false
			for _, f := range c.Files {
				is = is || frame.File != "" && (frame.File == f || strings.HasSuffix(frame.File, "/"+f) || strings.HasSuffix(f, "/"+frame.File))
			}
			if n := 100 / (1 + number); is && n > 1 {
				points += n
			} else if is {
				points++
			}
			number++
		}
	}
	return points
}

// plainSuspects is a plain reading of P6.6.
func plainSuspects(t *testing.T, faults []api.Fault, commits []release.Commit, releases []string, first string) (l []release.Suspect) {
	v := parsed(t, first)
	sorted, _ := release.Sorted(releases)
	since := -1
	for i, s := range sorted {
		if w := parsed(t, s); w.Project == v.Project && release.Compare(w, v) < 0 {
			since = i
		}
	}
	for _, c := range commits {
		w := parsed(t, c.Release)
		if w.Project != v.Project || release.Compare(w, v) > 0 || since >= 0 && release.Compare(w, parsed(t, sorted[since])) <= 0 {
			continue
		}
		if n := plainPoints(c, faults); n > 0 {
			l = append(l, release.Suspect{Commit: c.Id, Points: n})
		}
	}
	for i := range l { // the one that is to come first goes before the others
		for j := i; j > 0 && (l[j].Points > l[j-1].Points || l[j].Points == l[j-1].Points && l[j].Commit < l[j-1].Commit); j-- {
			l[j], l[j-1] = l[j-1], l[j]
		}
	}
	return l
}

// P6.6: plain readings.
func TestSuspectsPlainly(t *testing.T) {
	r := rand.New(rand.NewSource(8))
	file := func() string { return randomFrom(r, "ab/", 4) }
	some := 0
	for range 10_000 {
		faults := trace(make([][]api.Frame, 1+r.Intn(3))...)
		for i := range faults {
			for range r.Intn(5) {
				frame := own(file())
				frame.Own = r.Intn(4) > 0
				faults[i].Frames = append(faults[i].Frames, frame)
			}
		}
		var commits []release.Commit
		for i, id := range r.Perm(r.Intn(8)) {
			c := release.Commit{Id: "c" + strconv.Itoa(id), Author: "ann", Release: randomRelease(r)}
			for range r.Intn(4) {
				c.Files = append(c.Files, "b/"[i%2:]+file())
			}
			c.Files = slices.DeleteFunc(c.Files, func(s string) bool { return s == "" })
			slices.Sort(c.Files)
			c.Files = slices.Compact(c.Files)
			commits = append(commits, c)
		}
		releases, first := randomReleases(r, 3), randomRelease(r)
		want := plainSuspects(t, faults, commits, releases, first)
		got, e := release.Suspects(faults, commits, releases, first)
		if !slices.Equal(got, want) || e != api.OK {
			t.Fatalf("%v %v %v %s: %v %v, not %v", faults, commits, releases, first, got, e, want)
		}
		some += min(1, len(want))
	}
	if some < 1000 {
		t.Error(some)
	}
}

// P6.6: errors of Suspects, each before those behind it.
func TestSuspectsErrors(t *testing.T) {
	faults, first := trace([]api.Frame{own("a")}), commit(func(c *release.Commit) {})
	full := slices.Repeat([]string{"a-1.0.0"}, api.MaxEvents)
	for i, c := range []struct {
		faults   []api.Fault
		commits  []release.Commit
		releases []string
		first    string
		want     api.Errno
	}{
		{faults, []release.Commit{first}, full, "a-1.0.0", api.OK},
		{nil, []release.Commit{{}}, make([]string, 2001), "", api.ErrNone},
		{make([]api.Fault, 11), []release.Commit{{}}, nil, "", api.ErrLarge},
		{trace([]api.Frame{{}}), []release.Commit{{}}, nil, "", api.ErrForm},
		{faults, []release.Commit{first, {}}, make([]string, 2001), "", api.ErrName},
		{faults, make([]release.Commit, 501), []string{""}, "", api.ErrLarge},
		{faults, []release.Commit{first}, make([]string, 2001), "", api.ErrLarge},
		{faults, nil, []string{"a-1.0.0", "a"}, "b-1.0.0", api.ErrSyntax},
		{faults, nil, nil, "", api.ErrSyntax},
		{faults, nil, full, "b-1.0", api.ErrSyntax},
	} {
		if l, e := release.Suspects(c.faults, c.commits, c.releases, c.first); len(l) > 0 || e != c.want {
			t.Errorf("%d: %v %v, not %v", i, l, e, c.want)
		}
	}
	for _, c := range badCommits() {
		if l, e := release.Suspects(faults, []release.Commit{first, c.commit}, []string{""}, ""); len(l) > 0 || e != c.want {
			t.Errorf("%s: %v %v, not %v", c.name, l, e, c.want)
		}
	}
}

// P6.6: the most commits, files and frames.
func TestSuspectsLargest(t *testing.T) {
	var frames []api.Frame
	for i := range api.MaxFrames {
		frames = append(frames, own("x/"+letters(200)[i]))
	}
	var commits []release.Commit
	for i := range release.MaxCommits {
		commits = append(commits, release.Commit{Id: "c" + strconv.Itoa(1000+i), Author: "ann", Release: "a-1.0.0", Files: letters(100)})
	}
	l, e := release.Suspects(trace(slices.Repeat([][]api.Frame{frames}, api.MaxFaults)...), commits, nil, "a-1.0.0")
	want := 0
	for i := range 2000 {
		if i%200 < 100 {
			want += max(1, 100/(i+1))
		}
	}
	if len(l) != 500 || l[0] != (release.Suspect{Commit: "c1000", Points: want}) || l[499] != (release.Suspect{Commit: "c1499", Points: want}) || e != api.OK {
		t.Error(len(l), e, want)
	}
}
