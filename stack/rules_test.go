package stack_test

// The general rules (Z1 to Z12) where the tests of the promises do not ask for them: Z4 is asked for with the errors of each function, Z11 with Align, Z12 with Near and Cut.

import (
	"fmt"
	"math"
	"slices"
	"strings"
	"sync"
	"testing"

	"inquest/api"
	"inquest/stack"
)

// everything is what all functions return for these arguments.
func everything(l []api.Fault, a, b []api.Frame, runs []stack.Run, s string, n int) []string {
	var r []string
	add := func(results ...any) { r = append(r, fmt.Sprintf("%+v", results)) }
	for _, f := range l {
		add(stack.CheckFault(f))
	}
	for _, f := range a {
		add(stack.CheckFrame(f))
	}
	text, e := stack.Write(l, n)
	add(text, e)
	read, line, e := stack.Read(s, n)
	add(read, line, e)
	cut, gone, e := stack.Cut(a, n)
	add(cut, gone, e)
	fold, e := stack.Fold(a)
	add(fold, e)
	unfold, e := stack.Unfold(a, runs)
	add(unfold, e)
	pairs, e := stack.Align(a, b)
	add(pairs, e)
	near, e := stack.Near(a, b)
	add(near, e)
	culprit, e := stack.Culprit(l)
	add(culprit, e)
	add(stack.Check(l), stack.Same(l, l), stack.Same(l, nil), stack.Guess(s), stack.Shared(a, b))
	return r
}

// Z1 and Z9: every call returns, whatever the numbers and bytes are.
func TestHostile(t *testing.T) {
	numbers := []int{math.MinInt, -1, 0, 1, 3, 201, math.MaxInt}
	texts := []string{"", "\x00", "\xff\xfe", ":", "!", " (", "    at ", "    ... ", "Caused by: ", "Traceback:\n  ", "fault ", "\n\n\n", strings.Repeat("\n", 2_000_000), strings.Repeat("    at f\n", 10_000), word(1_000_001)}
	for _, n := range numbers {
		for _, s := range texts {
			f := api.Frame{Module: s, Func: s, File: s, Line: n, Addr: n}
			frames := []api.Frame{f, {}, f}
			faults := []api.Fault{{Kind: s, Text: s, Frames: frames}, {}}
			everything(faults, frames, frames[:1], []stack.Run{{From: n, Long: n, Times: n}, {}}, s, n)
			everything(nil, row("a a"), frames, []stack.Run{{From: n, Long: 1, Times: n}, {From: n, Long: 1, Times: 1}}, s, stack.Inner)
			everything(nil, nil, nil, nil, s, stack.Pairs)
		}
	}
	large := make([]api.Frame, 100_000)
	everything(slices.Repeat([]api.Fault{{Frames: large}}, 20), large, large, make([]stack.Run, 100_000), "", 1)
	if _, e := stack.Unfold(nil, slices.Repeat([]stack.Run{{Long: 200, Times: 200}}, 100_000)); e != api.ErrForm {
		t.Error(e)
	}
}

// spare returns a list with a full capacity behind its length.
func spare[T any](l []T, behind T) []T {
	r := append(slices.Clone(l), behind, behind, behind, behind)
	return r[:len(l)]
}

// Z2: arguments are neither modified nor kept, and what is after a length stays as it is.
func TestArguments(t *testing.T) {
	a, b := spare(row("a b a b c"), fn("behind")), spare(row("x b a b c"), fn("behind"))
	l := spare([]api.Fault{{Kind: "K", Text: "x", Frames: a}, {Kind: "L", Frames: b}}, api.Fault{Kind: "behind"})
	runs := spare([]stack.Run{{0, 3, 2}, {6, 2, 3}}, stack.Run{From: 99})
	before := fmt.Sprint(a[:cap(a)], b[:cap(b)], l[:cap(l)], runs[:cap(runs)])
	for n := range 5 {
		first := everything(l, a, b, runs, "K:\n", n)
		if after := fmt.Sprint(a[:cap(a)], b[:cap(b)], l[:cap(l)], runs[:cap(runs)]); after != before {
			t.Fatalf("%s, not %s", after, before)
		}
		if again := everything(l, a, b, runs, "K:\n", n); !slices.Equal(first, again) {
			t.Errorf("%v, then %v", first, again)
		}
	}
}

// Z2: results are new memory; no two lists of a result share any.
func TestResults(t *testing.T) {
	a := row("a b a b c")
	keep := slices.Clone(a)
	cut, _, _ := stack.Cut(a, 200)
	short, _, _ := stack.Cut(a, 3)
	unfold, _ := stack.Unfold(a, []stack.Run{{0, 5, 1}})
	for _, l := range [][]api.Frame{cut, short, unfold} {
		if len(l) == 0 {
			t.Fatal("there is no result")
		}
		l = l[:cap(l)]
		for i := range l {
			l[i] = fn("changed")
		}
		if !slices.Equal(a, keep) {
			t.Fatal("a result shares memory with an argument")
		}
	}
	faults := []api.Fault{fault("A", "a b c d"), fault("B", "x b c d"), fault("C", "y x b c d"), fault("D", "c d")}
	for form := stack.Inner; form <= stack.Pairs; form++ {
		s, _ := stack.Write(faults, form)
		for changed := range faults {
			l, _, e := stack.Read(s, form)
			if e != api.OK {
				t.Fatal(e)
			}
			frames := l[changed].Frames[:cap(l[changed].Frames)]
			for i := range frames {
				frames[i] = fn("changed")
			}
			for i := range l {
				if i != changed && !slices.Equal(l[i].Frames, faults[i].Frames) {
					t.Errorf("%d: frames of fault %d share memory with those of fault %d", form, changed, i)
				}
			}
		}
	}
}

// Z5: empty and nil lists are the same, in arguments and in results.
func TestEmpty(t *testing.T) {
	none := everything(nil, nil, nil, nil, "", 1)
	if got := everything([]api.Fault{}, []api.Frame{}, []api.Frame{}, []stack.Run{}, "", 1); !slices.Equal(got, none) {
		t.Errorf("%v, not %v", got, none)
	}
	nils := everything([]api.Fault{{Kind: "K"}}, nil, nil, nil, "", 1)
	if got := everything([]api.Fault{{Kind: "K", Frames: []api.Frame{}}}, nil, nil, nil, "", 1); !slices.Equal(got, nils) {
		t.Errorf("%v, not %v", got, nils)
	}
}

// Z7: goroutines get the same results.
func TestTogether(t *testing.T) {
	s, e := stack.Write(sample(), stack.Inner)
	if e != api.OK {
		t.Fatal(e)
	}
	a, b, runs := row("a b a b c"), row("x b a b c"), []stack.Run{{0, 5, 2}}
	want := everything(sample(), a, b, runs, s, stack.Inner)
	l := sample()
	var group sync.WaitGroup
	for range 8 {
		group.Go(func() {
			for range 20 {
				if got := everything(l, a, b, runs, s, stack.Inner); !slices.Equal(got, want) {
					t.Errorf("%v, not %v", got, want)
				}
			}
		})
	}
	group.Wait()
}

// Z3 and Z8: fields that a line does not tell of have their zero values, but for Addr; with an error there is no result.
func TestZeroValues(t *testing.T) {
	l, n, e := stack.Read("K:\n    at f\n", stack.Inner)
	if want := []api.Fault{{Kind: "K", Frames: []api.Frame{{Func: "f", Addr: -1}}}}; !stack.Same(l, want) || n != 0 || e != api.OK {
		t.Error(l, n, e)
	}
	for _, s := range []string{"K:\n    at f\nx\n", "K: \x01\n    at f\n", "K:\n    at f\n    at " + word(201) + "\n"} {
		l, n, e := stack.Read(s, stack.Inner)
		if len(l) > 0 || e == api.OK || (e == api.ErrSyntax) != (n > 0) {
			t.Errorf("%q: %v %d %v", s, l, n, e)
		}
	}
}

// Z10: Read takes no other way to write a number than that of Write.
func TestNumbers(t *testing.T) {
	for _, n := range []string{"00", "01", "+1", "-1", "-0", "1_0", "1.0", "1e1", "\xd9\xa1", "0b1", "0o1", "0x1", " 1", "1 "} {
		wrong(t, stack.Inner, lines("K:", "    at f (x:"+n+")"), 2)
		wrong(t, stack.Pairs, lines("fault K:", "f", "\t(x:"+n+")"), 3)
		wrong(t, stack.Inner, lines("K:", "    at a", "    at b", "Caused by: K:", "    ... "+strings.ReplaceAll(n, "1", "2")+" more"), 5)
		if n != "1e1" { // this one is an address
			wrong(t, stack.Outer, lines("Traceback:", "  f @"+n, "K:"), 2)
		}
	}
}
