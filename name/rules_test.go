package name_test

// The general rules (Z1 to Z12) where the tests of the promises do not ask for them: Z3 and Z4 are asked for with the errors of each function, Z10 with Demangle and Parse.

import (
	"fmt"
	"math"
	"slices"
	"strings"
	"sync"
	"testing"

	"inquest/api"
	"inquest/name"
)

// everything is what all functions return for these arguments.
func everything(a, b name.Symbol, text string, l []string) []string {
	var r []string
	add := func(results ...any) { r = append(r, fmt.Sprintf("%v", results)) }
	add(name.Check(a), name.Same(a, b), name.Same(b, a), name.Short(text))
	n, e := name.Types(a)
	add(n, e)
	s, e := name.Mangle(a)
	add(s, e)
	x, n, e := name.Demangle(text)
	add(x, n, e)
	s, e = name.Print(a)
	add(s, e)
	x, n, e = name.Parse(text)
	add(x, n, e)
	x, e = name.Bare(a)
	add(x, e)
	f, e := name.Families(l)
	add(f, e)
	return r
}

// ring is a type that lies in itself, after so many others.
func ring(n int, kind int) []name.Type {
	first := make([]name.Type, 1)
	l := first
	for range n - 1 {
		l = []name.Type{{Kind: kind, Of: l}}
	}
	first[0] = name.Type{Kind: kind, Of: l}
	return first
}

// Z1: every call returns, whatever the numbers and bytes are.
func TestHostile(t *testing.T) {
	texts := []string{
		"", "\x00", "\xff\xfe", "Q", "QN", "(", "<", "f(", "f<", word(1_000_001), strings.Repeat("\x00", 8000), "QN" + strings.Repeat("9", 7000), "QN1aES" + strings.Repeat("9", 7000) + "_Z",
		"QN1aE" + strings.Repeat("R", 7000), "QN1aE" + strings.Repeat("F", 7000), "QN1aE" + strings.Repeat("N1aI", 1900), "QN" + strings.Repeat("1a", 3900), "QN1aEF" + strings.Repeat("N1a", 2600), "f(" + strings.Repeat("ref ", 1900), "f" + strings.Repeat("<a", 3900), "f(" + strings.Repeat("func(", 1500), "f(" + strings.Repeat("func() ", 1100), "f(" + strings.Repeat("a, ", 2600), strings.Repeat("f.", 3900),
	}
	for _, text := range texts {
		for _, kind := range []int{math.MinInt, -1, 0, 1, 2, 3, 4, 5, math.MaxInt} {
			wild := name.Type{Kind: kind, Name: []name.Part{{Text: text, Args: []name.Type{{Kind: kind}}}}, Of: []name.Type{{Kind: kind, Name: parts(text)}, {}}}
			a, b := takes(wild), name.Symbol{Name: []name.Part{{Text: text, Args: []name.Type{wild}}}, Takes: []name.Type{{Kind: kind, Of: []name.Type{wild}}}}
			everything(a, b, text, texts)
			everything(b, a, text, nil)
		}
	}
	large := name.Symbol{Name: make([]name.Part, 1_000_000), Takes: make([]name.Type, 1_000_000)}
	everything(large, takes(large.Takes...), "", make([]string, 1_000_000))
	everything(takes(name.Type{Kind: name.Plain, Name: large.Name}), takes(function(large.Takes...)), "", nil)
}

// Z1: types within one another without an end, or nearly so.
func TestEndless(t *testing.T) {
	for _, kind := range []int{name.Ref, name.List, name.Func} {
		l := ring(1, kind)
		if e := name.Check(takes(l...)); e != api.ErrDeep {
			t.Error(kind, e)
		}
		// Rings of one kind are equal, since nothing in them differs.
		if !name.Same(takes(l...), takes(l...)) || !name.Same(takes(ring(2, kind)...), takes(ring(3, kind)...)) || name.Same(takes(l...), takes(ring(1, 9)...)) {
			t.Error(kind)
		}
		everything(takes(l...), takes(ring(5, kind)...), "", nil)
	}
	args := []name.Part{made("a", plain("b"))}
	args[0].Args[0].Name = args
	if e := name.Check(name.Symbol{Name: args}); e != api.ErrDeep || !name.Same(name.Symbol{Name: args}, name.Symbol{Name: args}) {
		t.Error(e)
	}
	// each type twice in the next one
	twice := func(last string) name.Symbol {
		l := []name.Type{plain(last)}
		for range 100 {
			l = []name.Type{function(l...), function(l...)}
		}
		return takes(l...)
	}
	if !name.Same(twice("a"), twice("a")) || name.Same(twice("a"), twice("b")) || name.Check(twice("a")) != api.ErrDeep {
		t.Error("types that come twice")
	}
	deep := func(last string) name.Symbol {
		r := plain(last)
		for range 1_000_000 {
			r = list(r)
		}
		return takes(r)
	}
	if !name.Same(deep("a"), deep("a")) || name.Same(deep("a"), deep("b")) || name.Check(deep("a")) != api.ErrDeep {
		t.Error("deep types")
	}
}

// spare returns a list with a full capacity behind its length.
func spare[T any](l []T, behind T) []T {
	r := append(slices.Clone(l), behind, behind, behind)
	return r[:len(l)]
}

// spareTypes has spare memory behind all its lists.
func spareTypes(l []name.Type) []name.Type {
	r := spare(l, plain("behind"))
	for i, t := range r {
		r[i] = name.Type{Kind: t.Kind, Name: spareParts(t.Name), Of: spareTypes(t.Of)}
	}
	return r
}

func spareParts(l []name.Part) []name.Part {
	r := spare(l, name.Part{Text: "behind"})
	for i, p := range r {
		r[i].Args = spareTypes(p.Args)
	}
	return r
}

// whole is all that is in the memory of a list of types.
func whole(l []name.Type) string {
	r := fmt.Sprint(l[:cap(l)])
	for _, t := range l {
		r += wholeName(t.Name) + whole(t.Of)
	}
	return r
}

func wholeName(l []name.Part) string {
	r := fmt.Sprint(l[:cap(l)])
	for _, p := range l {
		r += whole(p.Args)
	}
	return r
}

// Z2: arguments are neither modified nor kept, and what is after a length stays as it is.
func TestArguments(t *testing.T) {
	for _, p := range pairs() {
		a := name.Symbol{Name: spareParts(p.s.Name), Takes: spareTypes(p.s.Takes)}
		l := spare([]string{p.mangled, "x", p.mangled}, "behind")
		state := func() string { return wholeName(a.Name) + whole(a.Takes) + fmt.Sprint(l[:cap(l)]) }
		before := state()
		for _, text := range []string{p.mangled, p.printed, "x"} {
			one := everything(a, p.s, text, l)
			if after := state(); after != before {
				t.Fatalf("%s, not %s", after, before)
			}
			if again := everything(p.s, a, text, l); !slices.Equal(one, again) {
				t.Errorf("%v, then %v", one, again)
			}
		}
	}
}

// memory counts how many lists of a symbol have a place.
func memory(types map[*name.Type]int, parts map[*name.Part]int, s name.Symbol) {
	var add func(l []name.Type)
	addName := func(l []name.Part) {
		for i := range l[:cap(l)] {
			parts[&l[:cap(l)][i]]++
		}
		for _, p := range l {
			add(p.Args)
		}
	}
	add = func(l []name.Type) {
		for i := range l[:cap(l)] {
			types[&l[:cap(l)][i]]++
		}
		for _, t := range l {
			addName(t.Name)
			add(t.Of)
		}
	}
	addName(s.Name)
	add(s.Takes)
}

// Z2: results are new memory, and no two lists of them share any.
func TestResults(t *testing.T) {
	for _, p := range pairs() {
		types, parts := map[*name.Type]int{}, map[*name.Part]int{}
		bare, _ := name.Bare(p.s)
		memory(types, parts, bare)
		for range 2 {
			s, _, _ := name.Demangle(p.mangled)
			memory(types, parts, s)
			s, _, _ = name.Parse(p.printed)
			memory(types, parts, s)
		}
		for _, n := range types {
			if n != 1 {
				t.Error(p.mangled, "lists of types share memory")
			}
		}
		for _, n := range parts {
			if n != 1 {
				t.Error(p.mangled, "names share memory")
			}
		}
	}
	bare, e := name.Bare(takes(plain("a")))
	if e != api.OK {
		t.Fatal(e)
	}
	arg := takes(plain("a"))
	again, _ := name.Bare(arg)
	again.Name[0].Text = "changed"
	if arg.Name[0].Text != "f" || bare.Name[0].Text != "f" {
		t.Error("Bare shares memory with its argument")
	}
	l, _ := name.Families([]string{"a", "b", "a", "b"})
	_ = append(l[0], 7)
	clear(l[0][:cap(l[0])])
	if !slices.Equal(l[1], []int{1, 3}) {
		t.Error("families share memory")
	}
}

// Z5: empty and nil lists are the same.
func TestEmpty(t *testing.T) {
	of := func(none []name.Type, noParts []name.Part) name.Symbol {
		return name.Symbol{Name: []name.Part{{Text: "f", Args: none}}, Takes: []name.Type{{Kind: name.Plain, Name: []name.Part{{Text: "a", Args: none}}, Of: none}, {Kind: name.Ref, Name: noParts, Of: []name.Type{plain("a")}}}}
	}
	a, b := of(nil, nil), of([]name.Type{}, []name.Part{})
	if got, want := everything(b, a, "", []string{}), everything(a, b, "", nil); !slices.Equal(got, want) {
		t.Errorf("%v, not %v", got, want)
	}
	if e := name.Check(name.Symbol{Name: []name.Part{}, Takes: []name.Type{}}); e != api.ErrForm {
		t.Error(e)
	}
}

// Z7: goroutines get the same results, however the maps lie.
func TestTogether(t *testing.T) {
	var l []string
	for _, p := range pairs() {
		l = append(l, p.mangled, p.printed, p.mangled)
	}
	a, b := takes(crowd(500)), pairs()[0].s
	want := everything(a, b, l[0], l)
	var group sync.WaitGroup
	for range 8 {
		group.Go(func() {
			for range 20 {
				if got := everything(a, b, l[0], l); !slices.Equal(got, want) {
					t.Error("other results")
				}
			}
		})
	}
	group.Wait()
}
