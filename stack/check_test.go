package stack_test

import (
	"math"
	"slices"
	"strings"
	"testing"

	"inquest/api"
	"inquest/stack"
)

// P1.1
func TestCheckFrame(t *testing.T) {
	good := []api.Frame{
		fn("f"),
		{Module: word(200), Func: word(200), File: word(200), Line: api.MaxLine, Addr: api.MaxAddr, Own: true},
		{Func: "!~a!b", Module: "!", File: "!", Addr: 0},
		{Func: "f", File: "x", Line: 0, Addr: -1},
	}
	for _, f := range good {
		if e := stack.CheckFrame(f); e != api.OK {
			t.Errorf("%v: %v", f, e)
		}
	}
	bad := []struct {
		frame api.Frame
		want  api.Errno
	}{
		{api.Frame{Module: word(201), Func: "f", Addr: -1}, api.ErrLarge},
		{api.Frame{Func: word(201), Addr: -1}, api.ErrLarge},
		{api.Frame{Func: "f", File: word(201), Addr: -1}, api.ErrLarge},
		{api.Frame{Func: "", Addr: -1}, api.ErrForm},
		{api.Frame{Func: "f", File: "x", Line: -1, Addr: -1}, api.ErrRange},
		{api.Frame{Func: "f", File: "x", Line: api.MaxLine + 1, Addr: -1}, api.ErrRange},
		{api.Frame{Func: "f", Addr: -2}, api.ErrRange},
		{api.Frame{Func: "f", Addr: api.MaxAddr + 1}, api.ErrRange},
		{api.Frame{Func: "f", Line: 1, Addr: -1}, api.ErrForm},
		// The order of several errors.
		{api.Frame{Module: "a b", Func: "f", File: word(201), Addr: -1}, api.ErrLarge},
		{api.Frame{Func: "", File: "a b", Addr: -1}, api.ErrByte},
		{api.Frame{Func: "", Line: -1, Addr: -2}, api.ErrForm},
		{api.Frame{Func: "f", Line: -1, Addr: -1}, api.ErrRange},
		{api.Frame{Func: "f", Line: 1, Addr: -2}, api.ErrRange},
		{api.Frame{Func: "f", Line: math.MaxInt, Addr: math.MinInt}, api.ErrRange},
	}
	for _, c := range bad {
		if e := stack.CheckFrame(c.frame); e != c.want {
			t.Errorf("%v: %v, not %v", c.frame, e, c.want)
		}
	}
}

// P1.1: each byte in each word.
func TestBytes(t *testing.T) {
	for b := range 256 {
		s := "a" + string([]byte{byte(b)}) + "z"
		want := api.OK
		if b < 33 || b > 126 || strings.IndexByte("():,", byte(b)) >= 0 {
			want = api.ErrByte
		}
		frames := []api.Frame{{Module: s, Func: "f", Addr: -1}, {Func: s, Addr: -1}, {Func: "f", File: s, Addr: -1}}
		for _, f := range frames {
			if e := stack.CheckFrame(f); e != want {
				t.Errorf("%v: %v, not %v", f, e, want)
			}
		}
		want = api.OK
		if b < 33 || b > 126 || b == ':' {
			want = api.ErrByte
		}
		if e := stack.CheckFault(api.Fault{Kind: s}); e != want {
			t.Errorf("kind %q: %v, not %v", s, e, want)
		}
		want = api.OK
		if b < 32 || b == 127 {
			want = api.ErrByte
		}
		if e := stack.CheckFault(api.Fault{Kind: "K", Text: s}); e != want {
			t.Errorf("text %q: %v, not %v", s, e, want)
		}
	}
}

// P1.1
func TestCheckFault(t *testing.T) {
	good := []api.Fault{
		{Kind: "K"},
		{Kind: word(200), Text: strings.Repeat(" ", 2000), Frames: many(200)},
		{Kind: "(a,b)!", Text: "a: b"},
	}
	for _, f := range good {
		if e := stack.CheckFault(f); e != api.OK {
			t.Errorf("%v: %v", f, e)
		}
	}
	noFunc := []api.Frame{{Addr: -1}}
	bad := []struct {
		fault api.Fault
		want  api.Errno
	}{
		{api.Fault{Kind: word(201)}, api.ErrLarge},
		{api.Fault{Kind: ""}, api.ErrForm},
		{api.Fault{Kind: "K", Text: word(2001)}, api.ErrLarge},
		{api.Fault{Kind: "K", Frames: many(201)}, api.ErrLarge},
		{api.Fault{Kind: "K", Frames: noFunc}, api.ErrForm},
		// The order of several errors.
		{api.Fault{Kind: ":" + word(200), Text: "\n"}, api.ErrLarge},
		{api.Fault{Kind: ":", Text: word(2001)}, api.ErrByte},
		{api.Fault{Kind: "", Text: word(2001)}, api.ErrForm},
		{api.Fault{Kind: "", Text: "\n"}, api.ErrForm},
		{api.Fault{Kind: "K", Text: "\n" + word(2000)}, api.ErrLarge},
		{api.Fault{Kind: "K", Text: "\n", Frames: many(201)}, api.ErrByte},
		{api.Fault{Kind: "K", Frames: append(noFunc, many(200)...)}, api.ErrLarge},
		{api.Fault{Kind: "K", Frames: []api.Frame{{Addr: -1}, fn("a b")}}, api.ErrForm},
		{api.Fault{Kind: "K", Frames: []api.Frame{fn("a b"), {Addr: -1}}}, api.ErrByte},
	}
	for _, c := range bad {
		if e := stack.CheckFault(c.fault); e != c.want {
			t.Errorf("%.80v: %v, not %v", c.fault, e, c.want)
		}
	}
	for name, c := range badFrames() {
		l := []api.Frame{fn("a"), c.frame}
		if e := stack.CheckFault(api.Fault{Kind: "K", Frames: l}); e != c.want {
			t.Errorf("%s: %v, not %v", name, e, c.want)
		}
	}
}

// P1.1
func TestCheck(t *testing.T) {
	ten := slices.Repeat([]api.Fault{{Kind: "K"}}, 10)
	if e := stack.Check(ten); e != api.OK {
		t.Error(e)
	}
	bad := []struct {
		faults []api.Fault
		want   api.Errno
	}{
		{nil, api.ErrNone},
		{[]api.Fault{}, api.ErrNone},
		{append([]api.Fault{{}}, ten...), api.ErrLarge},
		{[]api.Fault{{Kind: "K"}, {Kind: ""}, {Kind: ":"}}, api.ErrForm},
		{[]api.Fault{{Kind: "K"}, {Kind: ":"}, {Kind: ""}}, api.ErrByte},
		{[]api.Fault{{Kind: "K", Frames: []api.Frame{{}}}, {Kind: ":"}}, api.ErrForm},
	}
	for _, c := range bad {
		if e := stack.Check(c.faults); e != c.want {
			t.Errorf("%v: %v, not %v", c.faults, e, c.want)
		}
	}
}

// P1.1: functions with faults return Check's error first.
func TestFaultErrors(t *testing.T) {
	eleven := slices.Repeat([]api.Fault{{Kind: "K"}}, 11)
	bad := []struct {
		faults []api.Fault
		want   api.Errno
	}{
		{nil, api.ErrNone},
		{eleven, api.ErrLarge},
		{[]api.Fault{{Kind: ":"}}, api.ErrByte},
		{[]api.Fault{{Kind: "K", Frames: []api.Frame{{Addr: -1}}}}, api.ErrForm},
	}
	for _, c := range bad {
		if s, e := stack.Culprit(c.faults); s != "" || e != c.want {
			t.Errorf("Culprit: %q %v, not %v", s, e, c.want)
		}
		if s, e := stack.Write(c.faults, 9); s != "" || e != c.want {
			t.Errorf("Write: %q %v, not %v", s, e, c.want)
		}
	}
}

// P1.1: functions with frames return the error of these first.
func TestFrameErrors(t *testing.T) {
	type bad struct {
		frames []api.Frame
		want   api.Errno
	}
	l := []bad{{many(201), api.ErrLarge}, {append([]api.Frame{{}}, many(200)...), api.ErrLarge}, {[]api.Frame{fn("a b"), {}}, api.ErrByte}, {[]api.Frame{{}, fn("a b")}, api.ErrForm}}
	for _, c := range badFrames() {
		l = append(l, bad{[]api.Frame{fn("a"), c.frame}, c.want})
	}
	for _, c := range l {
		if r, n, e := stack.Cut(c.frames, 0); len(r) > 0 || n != 0 || e != c.want {
			t.Error("Cut", r, n, e, c.want)
		}
		if r, e := stack.Fold(c.frames); len(r) > 0 || e != c.want {
			t.Error("Fold", r, e, c.want)
		}
		if r, e := stack.Unfold(c.frames, []stack.Run{{}}); len(r) > 0 || e != c.want {
			t.Error("Unfold", r, e, c.want)
		}
		for _, other := range [][]api.Frame{nil, many(2)} {
			if r, e := stack.Align(c.frames, other); len(r) > 0 || e != c.want {
				t.Error("Align of a", r, e, c.want)
			}
			if r, e := stack.Align(other, c.frames); len(r) > 0 || e != c.want {
				t.Error("Align of b", r, e, c.want)
			}
			if r, e := stack.Near(c.frames, other); r != 0 || e != c.want {
				t.Error("Near of a", r, e, c.want)
			}
			if r, e := stack.Near(other, c.frames); r != 0 || e != c.want {
				t.Error("Near of b", r, e, c.want)
			}
		}
	}
	small, large := []api.Frame{{Addr: -1}}, many(201)
	if _, e := stack.Align(small, large); e != api.ErrForm {
		t.Error("Align asks b before a", e)
	}
	if _, e := stack.Near(large, small); e != api.ErrLarge {
		t.Error("Near asks b before a", e)
	}
}
