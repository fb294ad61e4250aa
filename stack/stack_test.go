package stack_test

import (
	"testing"

	"inquest/api"
	"inquest/stack"
)

// P1.1: Same, Guess and Shared have no errors.
func TestSame(t *testing.T) {
	if !stack.Same(nil, []api.Fault{}) || !stack.Same(sample(), sample()) {
		t.Error("equal faults are not the same")
	}
	if !stack.Same([]api.Fault{{Frames: nil}}, []api.Fault{{Frames: []api.Frame{}}}) {
		t.Error("nil and empty frames are not the same")
	}
	if !stack.Same(make([]api.Fault, 20), make([]api.Fault, 20)) {
		t.Error("faults with errors are not the same")
	}
	changes := []func(l []api.Fault) []api.Fault{
		func(l []api.Fault) []api.Fault { return l[:2] },
		func(l []api.Fault) []api.Fault { return append(l, api.Fault{}) },
		func(l []api.Fault) []api.Fault { l[0], l[1] = l[1], l[0]; return l },
		func(l []api.Fault) []api.Fault { l[2].Kind = "Nine"; return l },
		func(l []api.Fault) []api.Fault { l[2].Text = "x"; return l },
		func(l []api.Fault) []api.Fault { l[1].Frames = l[1].Frames[:3]; return l },
		func(l []api.Fault) []api.Fault { l[1].Frames[3].Module = "x"; return l },
		func(l []api.Fault) []api.Fault { l[1].Frames[3].Func = "x"; return l },
		func(l []api.Fault) []api.Fault { l[1].Frames[3].File = "x"; return l },
		func(l []api.Fault) []api.Fault { l[1].Frames[3].Line = 1; return l },
		func(l []api.Fault) []api.Fault { l[1].Frames[3].Addr = 1; return l },
		func(l []api.Fault) []api.Fault { l[1].Frames[3].Own = true; return l },
	}
	for i, change := range changes {
		if stack.Same(sample(), change(sample())) || stack.Same(change(sample()), sample()) {
			t.Errorf("change %d is not seen", i)
		}
	}
}

// P1.8
func TestCulprit(t *testing.T) {
	own := func(module, call string) api.Frame {
		return api.Frame{Module: module, Func: call, Addr: -1, Own: true}
	}
	cases := []struct {
		faults [][]api.Frame
		want   string
	}{
		{[][]api.Frame{nil}, ""},
		{[][]api.Frame{nil, nil}, ""},
		{[][]api.Frame{row("a b")}, "a"},
		{[][]api.Frame{nil, row("a b"), row("c")}, "a"},
		{[][]api.Frame{{{Module: "m", Func: "f", File: "x", Line: 3, Addr: 4}}}, "m!f"},
		{[][]api.Frame{{fn("a"), own("", "b"), own("m", "c")}}, "b"},
		{[][]api.Frame{{fn("a"), own("m", "c"), own("", "b")}}, "m!c"},
		{[][]api.Frame{row("a"), {fn("b"), own("m", "c")}, {own("", "d")}}, "m!c"},
		{[][]api.Frame{nil, {own("", "d")}, row("a")}, "d"},
		{[][]api.Frame{{own("a!", "!b")}}, "a!!!b"},
	}
	for _, c := range cases {
		var l []api.Fault
		for _, frames := range c.faults {
			l = append(l, api.Fault{Kind: "K", Frames: frames})
		}
		if s, e := stack.Culprit(l); s != c.want || e != api.OK {
			t.Errorf("%v: %q %v, not %q", c.faults, s, e, c.want)
		}
	}
}
