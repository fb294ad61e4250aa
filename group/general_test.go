package group_test

// The general rules (Z1 to Z12) where the tests of the promises do not ask for them: Z3 and Z4 are asked for with the errors of each function, Z10 with ReadRules.

import (
	"fmt"
	"math"
	"slices"
	"strings"
	"sync"
	"testing"

	"inquest/api"
	"inquest/group"
)

// everything is what all functions return for these arguments.
func everything(l []group.Rule, faults []api.Fault, s string, parts []string) []string {
	var r []string
	add := func(results ...any) { r = append(r, fmt.Sprintf("%v", results)) }
	add(group.Fits(s, s), group.Fits("*"+s, s), group.CheckRules(l), group.Plain(s), group.Digest(parts))
	text, e := group.RulesText(l)
	add(text, e)
	read, n, e := group.ReadRules(s)
	add(read, n, e)
	marked, key, e := group.Mark(l, faults)
	add(marked, key, e)
	got, e := group.Parts(l, faults)
	add(got, e)
	text, e = group.Print(l, faults)
	add(text, e)
	return r
}

// Z1 and Z9: every call returns, whatever the numbers and bytes are.
func TestHostile(t *testing.T) {
	texts := []string{
		"", "\x00", "\xff\xfe", "*", "?", "\n", "!", "->", "-> ", "\"", "func:", "func:\"", "-> key=\"\\", "-> most=",
		word(1_000_001), strings.Repeat("\n", 1_000_000), strings.Repeat("own ", 250_000), strings.Repeat("!", 1_000_000), "->" + strings.Repeat(" own", 249_999), "func:\"" + strings.Repeat("\\\"", 499_990), "-> most=" + strings.Repeat("9", 999_900), strings.Repeat("\"", 1_000_000), strings.Repeat("0x", 500_000),
	}
	for _, n := range []int{math.MinInt, -1, 0, 1, 5, 6, 7, math.MaxInt} {
		for _, s := range texts {
			l := []group.Rule{{If: []group.Match{{On: n, Glob: s}, {}}, Then: []group.Act{{Do: n, N: n, Text: s}, {}}}, {}}
			faults := []api.Fault{{Kind: s, Text: s, Frames: []api.Frame{{Module: s, Func: s, File: s, Line: n, Addr: n}}}, {}}
			everything(l, sample(), s, []string{s, s})
			everything(goodRules(), faults, s, nil)
			b := taken(t, 1, 2)
			b.Take(s, n, n)
			b.Of(s)
			b.Merge(n, n)
			b.Merge(n, 1)
			b.Split(n, []string{s})
			b.Split(1, []string{print(1), s})
			b.Undo()
			if s := fmt.Sprint(b.Groups()); s != fmt.Sprint(taken(t, 1, 2).Groups()) {
				t.Error(n, s)
			}
		}
	}
	everything(make([]group.Rule, 100_000), make([]api.Fault, 100_000), "", make([]string, 1_000_000))
	taken(t, 1).Split(1, make([]string, 1_000_000))
}

// Z1: a book that no function has made is an empty one.
func TestZeroBook(t *testing.T) {
	var b group.Book
	if id, e := b.Of(print(1)); id != 0 || e != api.ErrNone || b.Merge(1, 2) != api.ErrNone || b.Undo() || book(&b) != "[] []" {
		t.Error(id, e)
	}
	if id, e := b.Split(1, nil); id != 0 || e != api.ErrNone {
		t.Error(id, e)
	}
	if id, fresh, e := b.Take(print(1), 0, 1); id != 1 || !fresh || e != api.OK {
		t.Error(id, fresh, e)
	}
}

// spare returns a list with a full capacity behind its length.
func spare[T any](l []T, behind T) []T {
	r := append(slices.Clone(l), behind, behind, behind)
	return r[:len(l)]
}

// spareRules and spareFaults have spare memory behind all their lists.
func spareRules(l []group.Rule) []group.Rule {
	r := spare(l, group.Rule{})
	for i := range r {
		r[i].If = spare(r[i].If, group.Match{On: 9})
		r[i].Then = spare(r[i].Then, group.Act{Do: 9})
	}
	return r
}

func spareFaults(l []api.Fault) []api.Fault {
	r := spare(l, api.Fault{Kind: "behind"})
	for i := range r {
		r[i].Frames = spare(r[i].Frames, api.Frame{Func: "behind"})
	}
	return r
}

// whole is all that is in the memory of rules and faults.
func whole(l []group.Rule, faults []api.Fault) string {
	s := fmt.Sprint(l[:cap(l)], faults[:cap(faults)])
	for _, r := range l {
		s += fmt.Sprint(r.If[:cap(r.If)], r.Then[:cap(r.Then)])
	}
	for _, f := range faults {
		s += fmt.Sprint(f.Frames[:cap(f.Frames)])
	}
	return s
}

// Z2: arguments are neither modified nor kept, and what is after a length stays as it is.
func TestArguments(t *testing.T) {
	l := spareRules(append(goodRules(), rules(t, "-> own hide\nown -> -own show most=2\n")...))
	faults, parts := spareFaults(sample()), spare([]string{"a", "b"}, "behind")
	state := func() string { return whole(l, faults) + fmt.Sprint(parts[:cap(parts)]) }
	before := state()
	for _, s := range []string{goodText(), "x", ""} {
		first := everything(l, faults, s, parts)
		if after := state(); after != before {
			t.Fatalf("%s, not %s", after, before)
		}
		if again := everything(l, sample(), s, []string{"a", "b"}); !slices.Equal(first, again) {
			t.Errorf("%v, then %v", first, again)
		}
	}
	b := taken(t, 1, 2, 3)
	b.Merge(1, 2)
	b.Merge(1, 3)
	moved := spare(prints(1, 3), "behind")
	if _, e := b.Split(1, moved); e != api.OK || fmt.Sprint(moved[:cap(moved)]) != fmt.Sprint(append(prints(1, 3), "behind", "behind", "behind")[:cap(moved)]) {
		t.Error(moved[:cap(moved)], e)
	}
	kept := book(b)
	clear(moved[:cap(moved)])
	if after := book(b); after != kept {
		t.Error("Split keeps its argument")
	}
	if !b.Undo() {
		t.Error("Undo")
	}
	expect(t, b, "1: 1 2 3")
}

// Z2: results are new memory; no two lists of a result share any.
func TestResults(t *testing.T) {
	l, _, _ := group.ReadRules(strings.Repeat("own !own -> own hide\n", 3))
	keep := fmt.Sprint(l[1:])
	_ = append(l[0].If, group.Match{On: 9})
	clear(l[0].If[:cap(l[0].If)])
	_ = append(l[0].Then, group.Act{Do: 9})
	clear(l[0].Then[:cap(l[0].Then)])
	if fmt.Sprint(l[1:]) != keep {
		t.Error("rules share memory")
	}
	faults := sample()
	marked, _, _ := group.Mark(goodRules(), faults)
	keep = fmt.Sprint(marked[1:])
	clear(marked[0][:cap(marked[0])])
	if fmt.Sprint(marked[1:]) != keep || fmt.Sprint(faults) != fmt.Sprint(sample()) {
		t.Error("frames share memory")
	}
	b := taken(t, 1, 2, 3, 4)
	b.Merge(1, 2)
	b.Merge(3, 4)
	keep = book(b)
	groups, steps := b.Groups(), b.History()
	for _, g := range groups {
		clear(g.Prints[:cap(g.Prints)])
	}
	clear(groups[:cap(groups)])
	for _, s := range steps {
		clear(s.Prints[:cap(s.Prints)])
	}
	clear(steps[:cap(steps)])
	if book(b) != keep {
		t.Error("a book shares memory with what it returns")
	}
	groups, steps = b.Groups(), b.History()
	_ = append(groups[0].Prints, "x")
	_ = append(steps[0].Prints, "x")
	if fmt.Sprint(groups, steps) != keep {
		t.Error("lists of a result share memory")
	}
}

// Z5: empty and nil lists are the same, in arguments and in results.
func TestEmpty(t *testing.T) {
	empty := []group.Rule{{If: []group.Match{}, Then: []group.Act{{Do: group.Hide}}}}
	faults := []api.Fault{{Kind: "a", Frames: []api.Frame{}}}
	want := everything(rules(t, "-> hide\n"), []api.Fault{{Kind: "a"}}, "", nil)
	if got := everything(empty, faults, "", []string{}); !slices.Equal(got, want) {
		t.Errorf("%v, not %v", got, want)
	}
	if got, want := everything([]group.Rule{}, []api.Fault{}, "", nil), everything(nil, nil, "", nil); !slices.Equal(got, want) {
		t.Errorf("%v, not %v", got, want)
	}
	if e := group.CheckRules([]group.Rule{{Then: []group.Act{}}}); e != api.ErrNone {
		t.Error(e)
	}
}

// Z7: goroutines get the same results, however the maps lie.
func TestTogether(t *testing.T) {
	l, faults := goodRules(), sample()
	want := everything(l, faults, goodText(), []string{"a"})
	work := func() string {
		b := group.NewBook()
		for i := range 200 {
			b.Take(print(i*7%100), i, 1+i)
		}
		for i := 2; i < 50; i++ {
			b.Merge(1, i)
		}
		b.Split(1, prints(7, 14, 21))
		b.Undo()
		return book(b)
	}
	wantBook := work()
	var group sync.WaitGroup
	for range 8 {
		group.Go(func() {
			for range 20 {
				if got := everything(l, faults, goodText(), []string{"a"}); !slices.Equal(got, want) || work() != wantBook {
					t.Error("other results")
				}
			}
		})
	}
	group.Wait()
}
