package stack_test

import (
	"fmt"
	"math/rand"
	"strings"
	"testing"

	"inquest/api"
	"inquest/stack"
)

// wrong asks for ErrSyntax in a line.
func wrong(t *testing.T, form int, s string, line int) {
	t.Helper()
	if l, n, e := stack.Read(s, form); len(l) > 0 || n != line || e != api.ErrSyntax {
		t.Errorf("Read %d of %.200q: %.80v %d %v, not line %d", form, s, l, n, e, line)
	}
}

// P1.4: lines of frames that Write does not write; the bad part is in the second line of a pair if there is one.
func TestWrongFrames(t *testing.T) {
	calls := []string{"", "!", "!f", "m!", "a!b!c", "a(", "a)", "a,", "a:", "a\x7f", "a\xc3\xa9", "\t", "a\tb", "\r", "m,!f", "m\x80!f"}
	rests := []string{
		"(", "()", "(x", "x)", "(x:)", "(:1)", "(:)", "(x:0)", "(x:01)", "(x:10000000)", "(x:00000001)", "(x:1a)", "(x:-1)", "(x:+1)", "(x:1:2)", "(x:1_0)", "(x: 1)",
		"(x y)", "(x,y)", "((x)", "(x))", "(x)*", "(x)@1", "(x) (y)", "(x\x80)", "(x)  *", "(x:1) ",
		"@", "@-1", "@+1", "@01", "@00", "@A", "@1F", "@g", "@0x1", "@1000000000000", "@0000000000001", "@1_0", "@ 1", "@1*", "@1 @2", "@1 (x)", "@1 ", "@1  *",
		"* @1", "* (x)", "**", "* *", "* ", " *", "x", " ", "*\r", "\t", "\t*",
	}
	for _, call := range calls {
		wrong(t, stack.Inner, lines("K:", "    at "+call), 2)
		wrong(t, stack.Inner, lines("K:", "    at f", "    at "+call+" *"), 3)
		wrong(t, stack.Outer, lines("Traceback:", "  "+call, "K:"), 2)
		wrong(t, stack.Pairs, lines("fault K:", call, "\t"), 2)
		wrong(t, stack.Pairs, lines("fault K:", "f", "\t", call, "\t*"), 4)
		wrong(t, stack.Pairs, lines("fault K:", call, "x"), 2)
	}
	for _, rest := range rests {
		wrong(t, stack.Inner, lines("K:", "    at f "+rest), 2)
		wrong(t, stack.Outer, lines("Traceback:", "  f", "  f "+rest, "K:"), 3)
		wrong(t, stack.Pairs, lines("fault K:", "f", "\t"+rest), 3)
	}
	wrong(t, stack.Inner, lines("K:", "    at f "), 2)
	wrong(t, stack.Inner, lines("K:", "    at  f"), 2)
	wrong(t, stack.Inner, lines("K:", "   at f"), 2)
	wrong(t, stack.Inner, lines("K:", "     at f"), 2)
	wrong(t, stack.Inner, lines("K:", "\tat f"), 2)
	wrong(t, stack.Inner, lines("K:", "    At f"), 2)
	wrong(t, stack.Inner, lines("K:", "    at"), 2)
	wrong(t, stack.Outer, lines("Traceback:", " f", "K:"), 2)
	wrong(t, stack.Outer, lines("Traceback:", "   f", "K:"), 2)
	wrong(t, stack.Outer, lines("Traceback:", "  f ", "K:"), 2)
	wrong(t, stack.Pairs, lines("fault K:", "f *", "\t"), 2)
	wrong(t, stack.Pairs, lines("fault K:", "f ", "\t"), 2)
	wrong(t, stack.Pairs, lines("fault K:", "f", ""), 3)
	wrong(t, stack.Pairs, lines("fault K:", "f", "*"), 3)
	wrong(t, stack.Pairs, lines("fault K:", "f", " *"), 3)
	wrong(t, stack.Pairs, lines("fault K:", "f", "g", "\t"), 3)
	wrong(t, stack.Pairs, lines("fault K:", "\t", "f"), 2)
}

// P1.4: heads that Write does not write.
func TestWrongHeads(t *testing.T) {
	for _, head := range []string{"", ":", ": x", "K", "K x", "K: ", "K:x", "K :", "K :x", " K:", "a b: x", "\x7f:", "\xc3\xa9: x", "K\t: x"} {
		wrong(t, stack.Inner, lines(head), 1)
		wrong(t, stack.Inner, lines("A:", "Caused by: "+head), 2)
		wrong(t, stack.Outer, lines("Traceback:", head), 2)
		wrong(t, stack.Outer, lines("Traceback:", "  f", head), 3)
		wrong(t, stack.Pairs, lines("fault "+head), 1)
		wrong(t, stack.Pairs, lines("fault K:", "fault "+head), 2)
	}
	wrong(t, stack.Inner, lines("Caused by: K:"), 1)
	wrong(t, stack.Inner, lines("K:", "K:"), 2)
	wrong(t, stack.Inner, lines("K:", ""), 2)
	wrong(t, stack.Inner, lines("K:", "    at f", "", "    at f"), 3)
	wrong(t, stack.Inner, lines("K:", "caused by: K:"), 2)
	wrong(t, stack.Outer, lines("K:"), 1)
	wrong(t, stack.Outer, lines("traceback:", "K:"), 1)
	wrong(t, stack.Outer, lines("Traceback: ", "K:"), 1)
	wrong(t, stack.Outer, lines("Traceback:", "K:", "Traceback:", "K:"), 3)
	wrong(t, stack.Outer, lines("Traceback:", "K:", "which led to", "Traceback:", "K:"), 3)
	wrong(t, stack.Outer, lines("Traceback:", "K:", "which led to: ", "Traceback:", "K:"), 3)
	wrong(t, stack.Outer, lines("Traceback:", "K:", "which led to:", "K:"), 4)
	wrong(t, stack.Outer, lines("which led to:", "Traceback:", "K:"), 1)
	wrong(t, stack.Outer, lines("Traceback:", "K:", ""), 3)
	wrong(t, stack.Pairs, lines("K:"), 1)
	wrong(t, stack.Pairs, lines("Fault K:"), 1)
	wrong(t, stack.Pairs, lines("fault K:", ""), 2)
	wrong(t, stack.Pairs, lines("fault K:", "K:"), 2)
}

// P1.4: a line is missing, or has no end.
func TestMissingLines(t *testing.T) {
	for form := stack.Inner; form <= stack.Pairs; form++ {
		wrong(t, form, "", 1)
		wrong(t, form, "\n", 1)
		wrong(t, form, "x", 1)
		s, e := stack.Write(sample(), form)
		if e != api.OK {
			t.Error(e)
		}
		wrong(t, form, s[:len(s)-1], strings.Count(s, "\n"))
		wrong(t, form, s+"x", strings.Count(s, "\n")+1)
		wrong(t, form, s+"\n", strings.Count(s, "\n")+1)
	}
	wrong(t, stack.Outer, lines("Traceback:"), 2)
	wrong(t, stack.Outer, lines("Traceback:", "  f"), 3)
	wrong(t, stack.Outer, lines("Traceback:", "K:", "which led to:"), 4)
	wrong(t, stack.Outer, lines("Traceback:", "K:", "which led to:", "Traceback:", "  f"), 6)
	wrong(t, stack.Pairs, lines("fault K:", "f"), 3)
	wrong(t, stack.Pairs, lines("fault K:", "f", "\t", "g"), 5)
	wrong(t, stack.Pairs, lines("fault K:", "f", "fault K:"), 3)
}

// P1.4: numbers of shared frames.
func TestWrongShared(t *testing.T) {
	two := lines("K:", "    at a", "    at b", "Caused by: K:")
	for _, more := range []string{"    ... 1 more", "    ... 0 more", "    ... 3 more", "    ... 999 more", "    ... 02 more", "    ... 1000 more", "    ... 0002 more", "    ... +2 more", "    ... -2 more", "    ... 2", "    ... 2 ", "    ... 2 more ", "    ... 2more", "    ... more", "    ...  more", "    ... 2 More", "    ... b more", "    ...2 more", "    ... 2 more\r", "    ... "} {
		wrong(t, stack.Inner, two+lines(more), 5)
		wrong(t, stack.Inner, two+lines("    at c", more), 6)
		wrong(t, stack.Inner, two+lines(more, "Caused by"), 5)
	}
	for _, more := range []string{"    ... ", "    ... 2", "    ... 02 more", "    ... 1000 more"} {
		wrong(t, stack.Inner, two+lines(more, "    at c"), 5)
	}
	wrong(t, stack.Inner, lines("K:", "    ... 2 more"), 2)
	wrong(t, stack.Inner, lines("K:", "    at a", "    at b", "    ... 2 more"), 4)
	wrong(t, stack.Inner, lines("K:", "    at a", "    at b", "Caused by: K:", "Caused by: K:", "    ... 2 more"), 6)
	// More are shared than it says.
	wrong(t, stack.Inner, lines("K:", "    at a", "    at b", "    at c", "Caused by: K:", "    at a", "    ... 2 more"), 7)
	wrong(t, stack.Inner, lines("K:", "    at a", "    at b", "    at c", "Caused by: K:", "    at x", "    at a", "    ... 2 more", "x"), 8)
	// Shared frames stand there.
	wrong(t, stack.Inner, two+lines("    at a", "    at b"), 5)
	wrong(t, stack.Inner, two+lines("    at x", "    at a", "    at b"), 6)
	wrong(t, stack.Inner, two+lines("    at x", "    at y", "    at a", "    at b", "x"), 7)
	wrong(t, stack.Inner, two+lines("    at x", "    ... 2 more", "Caused by: K:", "    at x", "    at a", "    at b"), 8)
	// It is the last line of its fault.
	wrong(t, stack.Inner, two+lines("    ... 2 more", "    at c"), 6)
	wrong(t, stack.Inner, two+lines("    ... 2 more", "    ... 2 more"), 6)
	wrong(t, stack.Inner, two+lines("    ... 2 more", "x"), 6)
	// The lines of a fault are asked for their form first.
	wrong(t, stack.Inner, two+lines("    at a", "    at b", "    at  "), 7)
	wrong(t, stack.Inner, two+lines("    at a", "    ... x more"), 6)
	wrong(t, stack.Inner, two+lines("    ... 3 more", "    at c"), 6)
	wrong(t, stack.Inner, two+lines("    ... 1 more", "    at c"), 6)
	wrong(t, stack.Inner, lines("K:", "    ... 2 more", "    at a (x:0)"), 3)
	wrong(t, stack.Inner, two+"    at a\n    at b\n    at c", 7)
	// And both before the next line.
	wrong(t, stack.Inner, two+lines("    at a", "    at b", "   at "), 5)
	wrong(t, stack.Inner, two+"    at a\n    at b\n    ", 5)
	wrong(t, stack.Inner, two+lines("    at a", "    at b", "Caused by: "), 5)
}

// P1.4: numbers of shared frames are compared with the frames of the fault before, however many these are.
func TestManyShared(t *testing.T) {
	head := "K:\n" + strings.Repeat("    at f\n", 999) + "Caused by: K:\n"
	for end, want := range map[string]api.Errno{"    ... 999 more\n": api.ErrLarge, "    ... 998 more\n": api.ErrLarge, "    at f\n    ... 998 more\n": api.ErrSyntax} {
		if l, _, e := stack.Read(head+end, stack.Inner); len(l) > 0 || e != want {
			t.Errorf("%q: %v, not %v", end, e, want)
		}
	}
	wrong(t, stack.Inner, "K:\n"+strings.Repeat("    at f\n", 1000)+"Caused by: K:\n    ... 1000 more\n", 1003)
	// Each line of the end stands for nearly a thousand frames.
	long := head + strings.Repeat("    ... 999 more\nCaused by: K:\n", 30_000)
	if l, n, e := stack.Read(long, stack.Inner); len(l) > 0 || n != 0 || e != api.ErrLarge {
		t.Error(n, e)
	}
	wrong(t, stack.Inner, long+"x", 1+999+1+60_000+1)
}

// P1.4: ErrKind, and Check's errors after those of lines.
func TestReadErrors(t *testing.T) {
	cases := []struct {
		form int
		text string
		want api.Errno
	}{
		{0, "K:\n", api.ErrKind},
		{4, "", api.ErrKind},
		{-1, "K:\n", api.ErrKind},
		{stack.Inner, word(201) + ":\n", api.ErrLarge},
		{stack.Inner, "K: \x01\n", api.ErrByte},
		{stack.Inner, "K: a\tb\n", api.ErrByte},
		{stack.Inner, "K: a\r\n", api.ErrByte},
		{stack.Outer, "Traceback:\nK: \x7f\n", api.ErrByte},
		{stack.Pairs, "fault K: \x00\n", api.ErrByte},
		{stack.Inner, "K: " + word(2001) + "\n", api.ErrLarge},
		{stack.Inner, "K:\n    at " + word(201) + "\n", api.ErrLarge},
		{stack.Outer, "Traceback:\n  " + word(201) + "!f\nK:\n", api.ErrLarge},
		{stack.Pairs, "fault K:\nf\n\t(" + word(201) + ")\n", api.ErrLarge},
		{stack.Inner, "K:\n" + strings.Repeat("    at f\n", 201), api.ErrLarge},
		{stack.Outer, "Traceback:\n" + strings.Repeat("  f\n", 201) + "K:\n", api.ErrLarge},
		{stack.Pairs, "fault K:\n" + strings.Repeat("f\n\t\n", 201), api.ErrLarge},
		{stack.Inner, "K: \x01\n" + strings.Repeat("Caused by: K:\n", 10), api.ErrLarge},
		{stack.Outer, "Traceback:\nK: \x01\n" + strings.Repeat("which led to:\nTraceback:\nK:\n", 10), api.ErrLarge},
		{stack.Pairs, "fault K: \x01\n" + strings.Repeat("fault K:\n", 10), api.ErrLarge},
		{stack.Inner, "K:\n" + strings.Repeat("    at f\n", 200) + "Caused by: K:\n    at g\n    ... 200 more\n", api.ErrLarge},
		// Outer tells of the last fault first, Check goes from the first one on.
		{stack.Outer, "Traceback:\nK: \x01\nwhich led to:\nTraceback:\nK: " + word(2001) + "\n", api.ErrLarge},
		{stack.Outer, "Traceback:\nK: " + word(2001) + "\nwhich led to:\nTraceback:\nK: \x01\n", api.ErrByte},
	}
	for _, c := range cases {
		if l, n, e := stack.Read(c.text, c.form); len(l) > 0 || n != 0 || e != c.want {
			t.Errorf("%d %.80q: %.80v %d %v, not %v", c.form, c.text, l, n, e, c.want)
		}
		if got := stack.Guess(c.text); got != 0 && c.want != api.ErrKind {
			t.Errorf("Guess of %.80q: %d", c.text, got)
		}
	}
	wrong(t, stack.Inner, "K: \x01\n"+strings.Repeat("Caused by: K:\n", 10)+"x\n", 12)
	wrong(t, stack.Outer, "Traceback:\nK: \x01\nx\n", 3)
	wrong(t, stack.Pairs, "fault "+word(201)+":\nx\n", 3)
}

// P1.4: ten faults of 200 frames are read; the frames that are left out count.
func TestMostFaults(t *testing.T) {
	var l []api.Fault
	for range 10 {
		l = append(l, api.Fault{Kind: "K", Frames: many(200)})
	}
	for form := stack.Inner; form <= stack.Pairs; form++ {
		s, e := stack.Write(l, form)
		if e != api.OK {
			t.Error(form, e)
		}
		if r, n, e := stack.Read(s, form); !stack.Same(r, l) || n != 0 || e != api.OK {
			t.Error(form, n, e)
		}
	}
}

// P1.4: Guess returns the first form.
func TestGuess(t *testing.T) {
	for s, want := range map[string]int{
		"":                       0,
		"\n":                     0,
		"x":                      0,
		"Traceback:\n":           stack.Inner,
		"fault:\n":               stack.Inner,
		"Traceback:\nK:\n":       stack.Outer,
		"Traceback:\n  f\n":      0,
		"Traceback:\n    at f\n": stack.Inner,
		"fault K:\n":             stack.Pairs,
		"fault K:\nf\n":          0,
		"K: \x01\n":              0,
	} {
		if got := stack.Guess(s); got != want {
			t.Errorf("%q: %d, not %d", s, got, want)
		}
	}
}

// P1.4: what is read is what is written of it; without the last lines up to the wrong one, a text can be gone on with.
func TestChangedTexts(t *testing.T) {
	r := rand.New(rand.NewSource(1))
	bytes := "aKx:! ()@*01f\n\t.,Catm"
	ends := map[int][]string{
		stack.Outer: {"", "K:\n", "Traceback:\nK:\n"},
		stack.Pairs: {"", "\t\n", "fault K:\n"},
	}
	taken := 0
	for range 60_000 {
		form := stack.Inner + r.Intn(3)
		s, _ := stack.Write(sample(), form)
		for range 1 + r.Intn(2) {
			at, b := r.Intn(len(s)), string(bytes[r.Intn(len(bytes))])
			switch r.Intn(3) {
			case 0:
				s = s[:at] + b + s[at+1:]
			case 1:
				s = s[:at] + b + s[at:]
			case 2:
				s = s[:at] + s[at+1:]
			}
		}
		l, n, e := stack.Read(s, form)
		switch {
		case e == api.OK:
			taken++
			if w, e := stack.Write(l, form); w != s || e != api.OK {
				t.Fatalf("%d %q is read, but %q is written", form, s, w)
			}
		case e != api.ErrSyntax:
			if n != 0 {
				t.Fatalf("%d %q: %d %v", form, s, n, e)
			}
		case form != stack.Inner:
			if m := firstWrong(s, form, ends[form]); m != n {
				t.Fatalf("%d %q: line %d, not %d", form, s, n, m)
			}
		}
	}
	if taken < 1000 {
		t.Error("too few texts are read:", taken)
	}
}

// firstWrong is the first line such that no end makes the text up to it one that is read.
func firstWrong(s string, form int, ends []string) int {
	l := strings.SplitAfter(s, "\n")
	if l[len(l)-1] == "" {
		l = l[:len(l)-1]
	}
	for n := range l {
		good := false
		for _, end := range ends {
			_, _, e := stack.Read(strings.Join(l[:n+1], "")+end, form)
			good = good || strings.HasSuffix(l[n], "\n") && e != api.ErrSyntax
		}
		if !good {
			return n + 1
		}
	}
	return len(l) + 1
}

// P1.4: the form Inner against a reader that goes by the words of the chapter alone.
func TestInnerAgain(t *testing.T) {
	r := rand.New(rand.NewSource(2))
	parts := []string{"    at a\n", "    at b\n", "    at b\n", "    at c *\n", "    ... 1 more\n", "    ... 2 more\n", "    ... 3 more\n", "Caused by: K:\n", "Caused by: K:\n", "    at  \n", "x\n"}
	seen := map[string]int{}
	for range 200_000 {
		s := "K:\n"
		for range r.Intn(11) {
			s += parts[r.Intn(len(parts))]
		}
		_, n, e := stack.Read(s, stack.Inner)
		want := innerWrong(s)
		if n != want || (e == api.OK) != (want == 0) {
			t.Fatalf("%q: %d %v, not line %d", s, n, e, want)
		}
		seen[fmt.Sprint(e == api.OK)]++
	}
	if seen["true"] < 1000 || seen["false"] < 1000 {
		t.Error(seen)
	}
}

// innerWrong returns the number of the wrong line, or 0, for texts of the parts above.
func innerWrong(s string) int {
	l := strings.Split(strings.TrimSuffix(s, "\n"), "\n")
	var before []string
	for at := 0; at < len(l); {
		if at > 0 && l[at] != "Caused by: K:" {
			return at + 1
		}
		end := at + 1
		for end < len(l) && (strings.HasPrefix(l[end], "    at ") || strings.HasPrefix(l[end], "    ... ")) {
			end++
		}
		var frames []string
		more := -1
		for i := at + 1; i < end; i++ {
			if more >= 0 || l[i] == "    at  " {
				return i + 1
			}
			if fmt.Sscanf(l[i], "    ... %d more", &more); more < 0 {
				frames = append(frames, l[i])
			}
		}
		whole := frames
		if more >= 0 {
			if more < 2 || more > len(before) {
				return end
			}
			whole = append(whole, before[len(before)-more:]...)
		}
		shared := 0
		for shared < min(len(whole), len(before)) && whole[len(whole)-1-shared] == before[len(before)-1-shared] {
			shared++
		}
		if more >= 0 && shared != more {
			return end
		}
		if more < 0 && shared >= 2 {
			return at + 2 + len(whole) - shared
		}
		before, at = whole, end
	}
	return 0
}
