package event_test

import (
	"math/rand"
	"regexp"
	"slices"
	"strings"
	"testing"

	"inquest/api"
	"inquest/event"
	"inquest/stack"
)

const sampleText = "event 0123456789abcdef\n" +
	"at 99\n" +
	"level warning\n" +
	"weight 20\n" +
	"release app-1.0.0\n" +
	"user ann b <ann@x.org>\n" +
	"tag host \n" +
	"tag os linux 6\n" +
	"tag user-a a@b 1234\n" +
	"crumb 3 net get /12 \xff\n" +
	"crumb 3 ui \n" +
	"crumb 3155759999 net  77 \n" +
	"faults\n" +
	"Oops: card 12345 of \xc3\xa9: a.b@c.d\n" +
	"    at f\n" +
	"    at app!main (main.go:3) *\n" +
	"    at start (rt0123.s) @1f\n" +
	"Caused by: Low: 0xcafe1\n" +
	"    at g (g.go) @0\n" +
	"    ... 2 more\n" +
	"Caused by: None:\n"

// P4.2
func TestText(t *testing.T) {
	if s, x := event.Text(sample()); s != sampleText || x != api.OK {
		t.Errorf("%q %v", s, x)
	}
	words := strings.Fields("debug note warning error fatal")
	for i, word := range words {
		e := simple()
		e.Level = i + 1
		want := "event " + id + "\nat 5\nlevel " + word + "\nweight 1\nfaults\nOops:\n"
		if s, x := event.Text(e); s != want || x != api.OK {
			t.Errorf("%q %v", s, x)
		}
		if f, n, x := event.Read(want); !event.Same(e, f) || n != 0 || x != api.OK {
			t.Error(f, n, x)
		}
	}
	for _, change := range []func(e *api.Event){
		func(e *api.Event) { e.Faults[0].Frames[0].Func = "a!b" },
		func(e *api.Event) { e.Faults[1].Frames[1].Module = "a!b" },
	} {
		if s, x := event.Text(with(change)); s != "" || x != api.ErrByte {
			t.Errorf("%q %v", s, x)
		}
	}
}

// unshared is the largest event, with another address for each frame, so that no two faults share frames.
func unshared(change func(f *api.Frame)) api.Event {
	e := largest()
	at := api.MaxAddr
	for i := range e.Faults {
		e.Faults[i].Frames = slices.Clone(e.Faults[i].Frames)
		for j := range e.Faults[i].Frames {
			change(&e.Faults[i].Frames[j])
			e.Faults[i].Frames[j].Addr = at
			at--
		}
	}
	return e
}

// sized is an event whose text has so many bytes.
func sized(long int) api.Event {
	bare := func(f *api.Frame) { *f = api.Frame{Module: word(40), Func: word(190)} }
	s, _ := event.Text(unshared(bare))
	more := long - len(s)
	return unshared(func(f *api.Frame) {
		bare(f)
		n := min(more, 203)
		more -= n
		if n > 3 { // " (" and ")" come with a file
			f.File = word(n - 3)
		} else {
			f.Func += word(n)
		}
	})
}

// P4.2: the limit of what is written and read.
func TestTextLimit(t *testing.T) {
	e := sized(api.MaxText)
	s, x := event.Text(e)
	if len(s) != api.MaxText || x != api.OK {
		t.Fatal(len(s), x)
	}
	if f, n, x := event.Read(s); !event.Same(e, f) || n != 0 || x != api.OK {
		t.Error(n, x)
	}
	e.Weight /= 10
	e.Faults[0].Frames[0].Func += "w"
	if s, x := event.Text(e); len(s) != api.MaxText || x != api.OK {
		t.Error(len(s), x)
	}
	e.Weight *= 10
	if s, x := event.Text(e); s != "" || x != api.ErrLarge {
		t.Error(len(s), x)
	}
	if s, x := stack.Write(e.Faults, stack.Inner); len(s) > api.MaxText || x != api.OK {
		t.Error(len(s), x)
	}
	if s, x := event.Text(largest()); s == "" || x != api.OK {
		t.Error(len(s), x)
	}
	if s, x := event.Text(unshared(func(*api.Frame) {})); s != "" || x != api.ErrLarge {
		t.Error(len(s), x)
	}
	if f, n, x := event.Read(s + "\n"); !zero(f) || n != 0 || x != api.ErrLarge {
		t.Error(n, x)
	}
	if f, n, x := event.Read(word(api.MaxText + 1)); !zero(f) || n != 0 || x != api.ErrLarge {
		t.Error(n, x)
	}
}

// P4.2: lines that are not as told.
func TestReadSyntax(t *testing.T) {
	all := strings.SplitAfter(sampleText, "\n")
	for _, c := range []struct {
		line int // it is replaced
		by   []string
	}{
		{1, []string{"", "\n", "event\n", "event \n", "Event x\n", " event x\n", "at 1\n"}},
		{2, []string{"", "at\n", "at \n", "at -1\n", "at +1\n", "at 01\n", "at -0\n", "at 1 \n", "at  1\n", "at 10000000000\n", "at 1_0\n", "at x\n", "at 1\r\n"}},
		{3, []string{"", "level\n", "level \n", "level Error\n", "level 4\n", "level error \n", "level info\n"}},
		{4, []string{"", "weight\n", "weight \n", "weight 00\n", "weight 12345678901\n", "weight 1 1\n"}},
		{5, []string{"release\n", "release \n", "weight 20\n", "crumb 3 net\n"}},
		{6, []string{"user\n", "user \n", "release a\n"}},
		{7, []string{"tag\n", "tag \n", "tag host\n", "tag  \n", "tag  x\n", "user x\n", "weight 1\n", "x\n", "\n"}},
		{10, []string{"crumb\n", "crumb \n", "crumb 3\n", "crumb 3 \n", "crumb 3 net\n", "crumb 3  net\n", "crumb  3 net \n", "crumb 03 net x\n", "crumb -3 net x\n", "crumb 12345678901 net x\n", "crumb x net x\n", "release a\n", "user a\n"}},
		{11, []string{"tag zz x\n"}},
		{13, []string{"", "faults \n", "faults x\n", "Faults\n", "fault\n", "event x\n"}},
		{14, []string{"", "Oops\n", "Oops:x\n", "    at f\n"}},
		{16, []string{"    at app!main (main.go:03) *\n", "x\n", "\n"}},
		{18, []string{"Low: 0xcafe1\n"}},
		{20, []string{"    at app!main (main.go:3) *\n    at start (rt0123.s) @1f\n", "    ... 1 more\n", "    ... 4 more\n"}},
		{22, []string{"x\n", "\n", "Caused by: x"}},
	} {
		for _, by := range c.by {
			l := slices.Clone(all)
			l[c.line-1] = by
			if e, n, x := event.Read(strings.Join(l, "")); !zero(e) || n != c.line || x != api.ErrSyntax {
				t.Errorf("line %d %q: %v %d %v", c.line, by, e, n, x)
			}
		}
	}
	for i := range len(sampleText) {
		e, n, x := event.Read(sampleText[:i])
		if want := plainLine(sampleText[:i]); n != want || (x == api.ErrSyntax) != (want > 0) || zero(e) != (want > 0) {
			t.Errorf("%d bytes: %d %v, not %d", i, n, x, want)
		}
	}
	for _, n := range []int{1, 2, 3, 4, 12, 13} {
		if _, line, x := event.Read(strings.Join(all[:n], "")); line != n+1 || x != api.ErrSyntax {
			t.Errorf("%d lines: %d %v", n, line, x)
		}
	}
}

// P4.2: lines that are as told, and of which Check tells more.
func TestReadCheck(t *testing.T) {
	replace := func(l ...string) string { return strings.NewReplacer(l...).Replace(sampleText) }
	long := "Oops: " + word(2001)
	for _, c := range []struct {
		text string
		want api.Errno
	}{
		{replace(id, "\x01 \xff"), api.ErrForm},
		{replace("at 99\n", "at 9999999999\n"), api.ErrRange},
		{replace("weight 20", "weight 9999999999"), api.ErrRange},
		{replace("weight 20", "weight 0"), api.ErrRange},
		{replace("app-1.0.0", "app 1"), api.ErrName},
		{replace("app-1.0.0", " "), api.ErrName},
		{replace("ann b", word(201)), api.ErrLarge},
		{replace("ann b", "ann\tb"), api.ErrByte},
		{replace("tag host ", "tag \xff\x00 "), api.ErrName},
		{replace("tag host ", "tag osx "), api.ErrOrder},
		{replace("linux 6", "\x7f"), api.ErrByte},
		{replace("tag os linux 6\n", strings.Repeat("tag os x\n", 50)), api.ErrLarge},
		{replace("crumb 3 ui ", "crumb 2 ui "), api.ErrOrder},
		{replace("crumb 3 ui ", "crumb 4000000000 ui "), api.ErrRange},
		{replace("crumb 3 ui ", "crumb 3 UI "), api.ErrName},
		{replace("crumb 3 ui ", "crumb 3 ui \x01"), api.ErrByte},
		{replace("crumb 3 ui \n", strings.Repeat("crumb 3 ui \n", 50)), api.ErrLarge},
		{replace("Oops: card", long), api.ErrLarge},
		{replace("None:", "None: \x01"), api.ErrByte},
		{replace("None:\n", "None:\n"+strings.Repeat("Caused by: None:\n", 8)), api.ErrLarge},
		// The faults have errors, and so has what comes before or behind them.
		{replace(id, "x", "Oops: card", long), api.ErrForm},
		{replace("at 99\n", "at 9999999999\n", "Oops: card", long), api.ErrRange},
		{replace("tag host ", "tag A ", "Oops: card", long), api.ErrLarge},
		{replace("app-1.0.0", "A", "None:", "None: \x01"), api.ErrByte},
	} {
		if e, n, x := event.Read(c.text); !zero(e) || n != 0 || x != c.want {
			t.Errorf("%.300q: %v %d %v, not %v", c.text, e, n, x, c.want)
		}
	}
	// ErrSyntax comes before what Check tells.
	if _, n, x := event.Read(replace(id, "x", "None:", "None")); n != 21 || x != api.ErrSyntax {
		t.Error(n, x)
	}
}

// forms are the lines before the faults, in their order, and how often they may come.
var forms = []struct {
	line        *regexp.Regexp
	least, most int
}{
	{regexp.MustCompile(`^event [^\n]+\n$`), 1, 1},
	{regexp.MustCompile(`^at (0|[1-9][0-9]{0,9})\n$`), 1, 1},
	{regexp.MustCompile(`^level (debug|note|warning|error|fatal)\n$`), 1, 1},
	{regexp.MustCompile(`^weight (0|[1-9][0-9]{0,9})\n$`), 1, 1},
	{regexp.MustCompile(`^release [^\n]+\n$`), 0, 1},
	{regexp.MustCompile(`^user [^\n]+\n$`), 0, 1},
	{regexp.MustCompile(`^tag [^ \n]+ [^\n]*\n$`), 0, 1_000_000},
	{regexp.MustCompile(`^crumb (0|[1-9][0-9]{0,9}) [^ \n]+ [^\n]*\n$`), 0, 1_000_000},
	{regexp.MustCompile(`^faults\n$`), 1, 1},
}

// plainLine is a plain reading of P4.2: the number of the line that is wrong, or 0.
func plainLine(s string) int {
	l := strings.SplitAfter(s, "\n")
	at := 0
	for _, form := range forms {
		n := 0
		for ; n < form.most && at < len(l) && form.line.MatchString(l[at]); n++ {
			at++
		}
		if n < form.least {
			return at + 1
		}
	}
	_, line, x := stack.Read(strings.Join(l[at:], ""), stack.Inner)
	if x == api.ErrSyntax {
		return at + line
	}
	return 0
}

// changed is a text in which something is another.
func changed(r *rand.Rand, s string) string {
	l := strings.SplitAfter(s, "\n")
	i, j := r.Intn(len(l)), r.Intn(len(l))
	switch r.Intn(5) {
	case 0:
		l = slices.Delete(l, i, i+1)
	case 1:
		l = slices.Insert(l, i, l[j])
	case 2:
		l[i], l[j] = l[j], l[i]
	default:
		at := r.Intn(len(s))
		return s[:at] + randomFrom(r, " \n01-axe:\x00", 2) + s[min(len(s), at+r.Intn(3)):]
	}
	return strings.Join(l, "")
}

// P4.2 and what follows: Read of Text is the event, and Read takes nothing else.
func TestReadText(t *testing.T) {
	r := rand.New(rand.NewSource(2))
	taken := 0
	for range 5000 {
		e := randomEvent(r)
		s, x := event.Text(e)
		if x != api.OK {
			t.Fatal(e, x)
		}
		if f, n, x := event.Read(s); !event.Same(e, f) || n != 0 || x != api.OK {
			t.Fatalf("%q: %v %d %v", s, f, n, x)
		}
		for range 10 {
			s := changed(r, s)
			f, n, x := event.Read(s)
			want := plainLine(s)
			if n != want || (x == api.ErrSyntax) != (want > 0) {
				t.Fatalf("%q: %d %v, not %d", s, n, x, want)
			}
			if x != api.OK {
				continue
			}
			taken++
			if again, x := event.Text(f); again != s || x != api.OK {
				t.Fatalf("%q: %q %v", s, again, x)
			}
		}
	}
	if taken < 1000 {
		t.Error("only", taken, "of the changed texts were taken")
	}
}
