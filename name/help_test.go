package name_test

import (
	"fmt"
	"math/rand"
	"slices"
	"strconv"
	"strings"
	"testing"

	"inquest/name"
)

// word is a string of so many bytes.
func word(n int) string { return strings.Repeat("w", n) }

// parts is a name without Args, of identifiers with points between.
func parts(s string) (l []name.Part) {
	for _, text := range strings.Split(s, ".") {
		l = append(l, name.Part{Text: text})
	}
	return l
}

func made(text string, args ...name.Type) name.Part { return name.Part{Text: text, Args: args} }

func named(l ...name.Part) name.Type { return name.Type{Kind: name.Plain, Name: l} }

func plain(s string) name.Type { return named(parts(s)...) }

func ref(t ...name.Type) name.Type { return name.Type{Kind: name.Ref, Of: t} }

func list(t ...name.Type) name.Type { return name.Type{Kind: name.List, Of: t} }

func function(of ...name.Type) name.Type { return name.Type{Kind: name.Func, Of: of} }

// takes is the symbol f with what it takes.
func takes(l ...name.Type) name.Symbol { return name.Symbol{Name: parts("f"), Takes: l} }

// chain is a type within others, so many in all.
func chain(n int) name.Type {
	t := plain("a")
	for range n - 1 {
		t = list(t)
	}
	return t
}

// crowd is a type that has so many types in all, itself too, and no more than five within one another.
func crowd(n int) name.Type {
	if n == 1 {
		return plain("a")
	}
	var of []name.Type
	for left, places := n-1, min(n-1, 21); places > 0; places-- {
		part := left / places
		of = append(of, crowd(part))
		left -= part
	}
	return function(of...)
}

// all is what a symbol has; empty and nil lists are the same.
func all(s name.Symbol) string { return fmt.Sprintf("%v", s) }

// zero tells whether nothing is in a symbol.
func zero(s name.Symbol) bool { return len(s.Name) == 0 && len(s.Takes) == 0 }

// randomText is an identifier; the same ones come often.
func randomText(r *rand.Rand) string {
	l := []string{"a", "a", "a", "b", "b", "Int", "_9", "ref", "list", "func", "refs", "of_ten_bytes", "N1aE"}
	return l[r.Intn(len(l))]
}

func randomName(r *rand.Rand, room int) (l []name.Part) {
	for range 1 + r.Intn(5)/2 {
		p := name.Part{Text: randomText(r)}
		for room > 0 && r.Intn(3) == 0 {
			p.Args = append(p.Args, randomType(r, room-1))
		}
		l = append(l, p)
	}
	return l
}

// randomType has room for so many types within it.
func randomType(r *rand.Rand, room int) name.Type {
	kind := 1 + r.Intn(name.Func)
	if room == 0 {
		kind = name.Plain
	}
	switch kind {
	case name.Plain:
		return named(randomName(r, room)...)
	case name.Ref:
		return ref(randomType(r, room-1))
	case name.List:
		return list(randomType(r, room-1))
	}
	t := function(randomType(r, room-1))
	for r.Intn(2) == 0 {
		t.Of = append(t.Of, randomType(r, room-1))
	}
	return t
}

func randomSymbol(r *rand.Rand) name.Symbol {
	s := name.Symbol{Name: randomName(r, 3)}
	for range r.Intn(5) {
		s.Takes = append(s.Takes, randomType(r, r.Intn(4)))
	}
	return s
}

// randomSymbols calls a test with many symbols without errors.
func randomSymbols(t *testing.T, seed int64, test func(r *rand.Rand, s name.Symbol)) {
	t.Helper()
	r := rand.New(rand.NewSource(seed))
	for range 10_000 {
		test(r, randomSymbol(r))
	}
}

// plainMangle is Mangle as the chapter tells it, without errors.
func plainMangle(s name.Symbol) string {
	var written []string
	var writeTypes func(l []name.Type) string
	writeName := func(l []name.Part) string {
		r := "N"
		for _, p := range l {
			r += strconv.Itoa(len(p.Text)) + p.Text
			if len(p.Args) > 0 {
				r += "I" + writeTypes(p.Args) + "E"
			}
		}
		return r + "E"
	}
	writeTypes = func(l []name.Type) string {
		r := ""
		for _, t := range l {
			if n := slices.Index(written, all(takes(t))); n >= 0 {
				r += fmt.Sprintf("S%d_", n)
				continue
			}
			switch t.Kind {
			case name.Plain:
				r += writeName(t.Name)
			case name.Ref:
				r += "R" + writeTypes(t.Of)
			case name.List:
				r += "L" + writeTypes(t.Of)
			case name.Func:
				r += "F" + writeTypes(t.Of) + "E"
			}
			written = append(written, all(takes(t)))
		}
		return r
	}
	return "Q" + writeName(s.Name) + writeTypes(s.Takes) + "Z"
}

// plainPrint is Print as the chapter tells it, without errors.
func plainPrint(s name.Symbol) string {
	var printName func(l []name.Part) string
	var printTypes func(l []name.Type) string
	printName = func(l []name.Part) string {
		var r []string
		for _, p := range l {
			args := ""
			if len(p.Args) > 0 {
				args = "<" + printTypes(p.Args) + ">"
			}
			r = append(r, p.Text+args)
		}
		return strings.Join(r, ".")
	}
	printTypes = func(l []name.Type) string {
		var r []string
		for _, t := range l {
			last := len(t.Of) - 1
			switch t.Kind {
			case name.Plain:
				r = append(r, printName(t.Name))
			case name.Ref:
				r = append(r, "ref "+printTypes(t.Of))
			case name.List:
				r = append(r, "list "+printTypes(t.Of))
			case name.Func:
				r = append(r, "func("+printTypes(t.Of[:last])+") "+printTypes(t.Of[last:]))
			}
		}
		return strings.Join(r, ", ")
	}
	return printName(s.Name) + "(" + printTypes(s.Takes) + ")"
}

// long is a symbol of which a function that writes makes just so many bytes.
func long(t *testing.T, n int, write func(name.Symbol) string) name.Symbol {
	t.Helper()
	var l []name.Type
	for letter := 'a'; len(write(takes(l...))) < n-1250; letter++ {
		l = append(l, plain(strings.Repeat(string(letter)+word(59)+".", 17)+word(60)))
	}
	for many := range 20 {
		for last := range 60 {
			tail := plain(strings.Repeat(word(60)+".", many) + word(last+1))
			for _, end := range []name.Type{tail, ref(tail), ref(ref(tail))} {
				s := takes(append(slices.Clone(l), end)...)
				if len(write(s)) == n {
					return s
				}
			}
		}
	}
	t.Fatal("no symbol of so many bytes")
	return name.Symbol{}
}
