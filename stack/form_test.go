package stack_test

import (
	"slices"
	"strings"
	"testing"

	"inquest/api"
	"inquest/stack"
)

// P1.2 and P1.3: the parts of the line of a frame, in all forms.
func TestFrameLines(t *testing.T) {
	cases := []struct {
		frame      api.Frame
		call, rest string
	}{
		{fn("f"), "f", ""},
		{api.Frame{Module: "m", Func: "f", Addr: -1}, "m!f", ""},
		{api.Frame{Func: "f", File: "x.go", Addr: -1}, "f", "(x.go)"},
		{api.Frame{Func: "f", File: "x.go", Line: 1, Addr: -1}, "f", "(x.go:1)"},
		{api.Frame{Func: "f", File: "x!y", Line: 9_999_999, Addr: -1}, "f", "(x!y:9999999)"},
		{api.Frame{Func: "f", Addr: 0}, "f", "@0"},
		{api.Frame{Func: "f", Addr: 0x1f0}, "f", "@1f0"},
		{api.Frame{Func: "f", Addr: api.MaxAddr}, "f", "@ffffffffffff"},
		{api.Frame{Func: "f", Addr: 0xabcdef}, "f", "@abcdef"},
		{api.Frame{Func: "f", Addr: -1, Own: true}, "f", "*"},
		{api.Frame{Func: "f", File: "x", Addr: -1, Own: true}, "f", "(x) *"},
		{api.Frame{Func: "f", Addr: 2, Own: true}, "f", "@2 *"},
		{api.Frame{Module: "a.b", Func: "c@d*", File: "@*", Line: 20, Addr: 160, Own: true}, "a.b!c@d*", "(@*:20) @a0 *"},
	}
	for _, c := range cases {
		line := strings.TrimSuffix(c.call+" "+c.rest, " ")
		same(t, []api.Fault{{Kind: "K", Frames: []api.Frame{c.frame}}}, [4]string{
			stack.Inner: lines("K:", "    at "+line),
			stack.Outer: lines("Traceback:", "  "+line, "K:"),
			stack.Pairs: lines("fault K:", c.call, "\t"+c.rest),
		})
	}
}

// same asks that the faults are the texts in the three forms, for Write, Read and Guess.
func same(t *testing.T, faults []api.Fault, texts [4]string) {
	t.Helper()
	for form := stack.Inner; form <= stack.Pairs; form++ {
		if s, e := stack.Write(faults, form); s != texts[form] || e != api.OK {
			t.Errorf("Write %d: %q %v, not %q", form, s, e, texts[form])
		}
		if l, n, e := stack.Read(texts[form], form); !stack.Same(l, faults) || n != 0 || e != api.OK {
			t.Errorf("Read %d of %q: %v %d %v", form, texts[form], l, n, e)
		}
		if got := stack.Guess(texts[form]); got != form {
			t.Errorf("Guess of %q: %d, not %d", texts[form], got, form)
		}
	}
}

// P1.3: the example of the chapter.
func TestExample(t *testing.T) {
	main := api.Frame{Module: "app", Func: "main.main", File: "main.go", Line: 3, Addr: -1, Own: true}
	exit := api.Frame{Module: "rt", Func: "goexit", Addr: -1}
	same(t, []api.Fault{
		{Kind: "Oops", Text: "no", Frames: []api.Frame{{Module: "app", Func: "main.run", File: "main.go", Line: 7, Addr: -1, Own: true}, main, exit}},
		{Kind: "Low", Frames: []api.Frame{{Module: "app", Func: "low", File: "low.go", Line: 1, Addr: 31}, main, exit}},
	}, [4]string{
		stack.Inner: lines("Oops: no", "    at app!main.run (main.go:7) *", "    at app!main.main (main.go:3) *", "    at rt!goexit", "Caused by: Low:", "    at app!low (low.go:1) @1f", "    ... 2 more"),
		stack.Outer: lines("Traceback:", "  rt!goexit", "  app!main.main (main.go:3) *", "  app!low (low.go:1) @1f", "Low:", "which led to:", "Traceback:", "  rt!goexit", "  app!main.main (main.go:3) *", "  app!main.run (main.go:7) *", "Oops: no"),
		stack.Pairs: lines("fault Oops: no", "app!main.run", "\t(main.go:7) *", "app!main.main", "\t(main.go:3) *", "rt!goexit", "\t", "fault Low:", "app!low", "\t(low.go:1) @1f", "app!main.main", "\t(main.go:3) *", "rt!goexit", "\t"),
	})
}

// P1.3: faults without frames, and heads that look like something else.
func TestHeads(t *testing.T) {
	same(t, []api.Fault{{Kind: "K"}}, [4]string{"", "K:\n", "Traceback:\nK:\n", "fault K:\n"})
	same(t, []api.Fault{{Kind: "(a,b)", Text: " x: \xff"}}, [4]string{"", "(a,b):  x: \xff\n", "Traceback:\n(a,b):  x: \xff\n", "fault (a,b):  x: \xff\n"})
	same(t, []api.Fault{{Kind: "fault", Frames: row("fault Traceback")}, {Kind: "Traceback", Text: "which led to:"}}, [4]string{
		stack.Inner: lines("fault:", "    at fault", "    at Traceback", "Caused by: Traceback: which led to:"),
		stack.Outer: lines("Traceback:", "Traceback: which led to:", "which led to:", "Traceback:", "  Traceback", "  fault", "fault:"),
		stack.Pairs: lines("fault fault:", "fault", "\t", "Traceback", "\t", "fault Traceback: which led to:"),
	})
}

// P1.3: which frames are left out in the form Inner.
func TestLeftOut(t *testing.T) {
	cases := []struct {
		rows []string
		want string
	}{
		{[]string{"a b", "c d"}, lines("K:", "    at a", "    at b", "Caused by: K:", "    at c", "    at d")},
		{[]string{"a b", "c b"}, lines("K:", "    at a", "    at b", "Caused by: K:", "    at c", "    at b")},
		{[]string{"a b", "a b"}, lines("K:", "    at a", "    at b", "Caused by: K:", "    ... 2 more")},
		{[]string{"x a b", "a b"}, lines("K:", "    at x", "    at a", "    at b", "Caused by: K:", "    ... 2 more")},
		{[]string{"a b", "x a b"}, lines("K:", "    at a", "    at b", "Caused by: K:", "    at x", "    ... 2 more")},
		{[]string{"a", "a"}, lines("K:", "    at a", "Caused by: K:", "    at a")},
		{[]string{"a b c", "x b c", "y x b c"}, lines("K:", "    at a", "    at b", "    at c", "Caused by: K:", "    at x", "    ... 2 more", "Caused by: K:", "    at y", "    ... 3 more")},
		{[]string{"a b c", "", "a b c"}, lines("K:", "    at a", "    at b", "    at c", "Caused by: K:", "Caused by: K:", "    at a", "    at b", "    at c")},
	}
	for _, c := range cases {
		var l []api.Fault
		for _, words := range c.rows {
			l = append(l, fault("K", words))
		}
		if s, e := stack.Write(l, stack.Inner); s != c.want || e != api.OK {
			t.Errorf("%v: %q %v, not %q", c.rows, s, e, c.want)
		}
		if got, n, e := stack.Read(c.want, stack.Inner); !stack.Same(got, l) || n != 0 || e != api.OK {
			t.Errorf("%v: %v %d %v", c.rows, got, n, e)
		}
	}
	whole := []api.Fault{{Kind: "K", Frames: many(200)}, {Kind: "K", Frames: many(200)}}
	want := "K:\n" + strings.Repeat("    at f\n", 200) + "Caused by: K:\n    ... 200 more\n"
	if s, e := stack.Write(whole, stack.Inner); s != want || e != api.OK {
		t.Errorf("%q %v", s, e)
	}
	if l, _, e := stack.Read(want, stack.Inner); !stack.Same(l, whole) || e != api.OK {
		t.Error(e)
	}
	almost := []api.Fault{fault("K", "a b c"), fault("K", "a b c")}
	almost[1].Frames[1].Own = true
	want = lines("K:", "    at a", "    at b", "    at c", "Caused by: K:", "    at a", "    at b *", "    at c")
	if s, e := stack.Write(almost, stack.Inner); s != want || e != api.OK {
		t.Errorf("%q %v", s, e)
	}
}

// P1.3: the errors of Write, in their order.
func TestWriteErrors(t *testing.T) {
	mark := func(f api.Frame) []api.Fault { return []api.Fault{{Kind: "K", Frames: []api.Frame{fn("a"), f}}} }
	large := filled(t, stack.Inner, api.MaxText+1)
	both := slices.Clone(large)
	both[9].Frames = append(slices.Clone(both[9].Frames), fn("a!b"))
	cases := []struct {
		faults []api.Fault
		form   int
		want   api.Errno
	}{
		{nil, 0, api.ErrNone},
		{sample(), 0, api.ErrKind},
		{sample(), 4, api.ErrKind},
		{sample(), -1, api.ErrKind},
		{sample(), 1 << 40, api.ErrKind},
		{mark(fn("a!b")), 0, api.ErrKind},
		{mark(fn("a!b")), stack.Inner, api.ErrByte},
		{mark(fn("!")), stack.Outer, api.ErrByte},
		{mark(api.Frame{Module: "!", Func: "f", Addr: -1}), stack.Outer, api.ErrByte},
		{mark(api.Frame{Module: "a!", Func: "f", Addr: -1}), stack.Pairs, api.ErrByte},
		{large, 4, api.ErrKind},
		{large, stack.Inner, api.ErrLarge},
		{both, stack.Inner, api.ErrByte},
	}
	for _, c := range cases {
		if s, e := stack.Write(c.faults, c.form); s != "" || e != c.want {
			t.Errorf("%.80v: %.80q %v, not %v", c.faults, s, e, c.want)
		}
	}
}

// filled is faults that take so many bytes in a form.
func filled(t *testing.T, form, size int) []api.Fault {
	t.Helper()
	var l []api.Fault
	for i := range 10 {
		call := strings.Repeat(string(rune('a'+i)), 200)
		frame := api.Frame{Module: call, Func: call, File: call, Line: 1_000_000, Addr: -1}
		l = append(l, api.Fault{Kind: "K", Frames: slices.Repeat([]api.Frame{frame}, 160)})
	}
	s, e := stack.Write(l, form)
	if e != api.OK {
		t.Fatal(e)
	}
	left := size - len(s)
	for i := range l {
		// A text comes with a space ahead, so that one byte cannot be filled.
		n := min(left, 2001)
		if left == 2002 {
			n = 1000
		}
		if n >= 2 {
			l[i].Text = word(n - 1)
			left -= n
		}
	}
	if left != 0 {
		t.Fatalf("%d bytes are left", left)
	}
	return l
}

// P1.3 and P1.4: MaxText bytes are written and read, one more is not.
func TestMaxText(t *testing.T) {
	for form := stack.Inner; form <= stack.Pairs; form++ {
		l := filled(t, form, api.MaxText)
		s, e := stack.Write(l, form)
		if len(s) != api.MaxText || e != api.OK {
			t.Error(form, len(s), e)
		}
		if r, n, e := stack.Read(s, form); !stack.Same(r, l) || n != 0 || e != api.OK {
			t.Error(form, n, e)
		}
		for _, other := range []int{form, 0, 4} {
			if r, n, e := stack.Read(s+"x", other); len(r) > 0 || n != 0 || e != api.ErrLarge {
				t.Error(form, other, n, e)
			}
		}
		if got := stack.Guess(s); got != form {
			t.Error(form, got)
		}
		if got := stack.Guess(s + "\n"); got != 0 {
			t.Error(form, got)
		}
		if s, e := stack.Write(filled(t, form, api.MaxText+1), form); s != "" || e != api.ErrLarge {
			t.Error(form, len(s), e)
		}
	}
}

// What follows: Read of Write is the faults.
func TestReadOfWrite(t *testing.T) {
	for form := stack.Inner; form <= stack.Pairs; form++ {
		s, e := stack.Write(sample(), form)
		if e != api.OK {
			t.Error(form, e)
		}
		if l, n, e := stack.Read(s, form); !stack.Same(l, sample()) || n != 0 || e != api.OK {
			t.Error(form, l, n, e)
		}
		for other := stack.Inner; other <= stack.Pairs; other++ {
			if _, n, e := stack.Read(s, other); other != form && (n == 0 || e != api.ErrSyntax) {
				t.Error(form, other, n, e)
			}
		}
	}
}
