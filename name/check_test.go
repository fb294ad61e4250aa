package name_test

import (
	"fmt"
	"math"
	"math/rand"
	"slices"
	"strings"
	"testing"

	"inquest/api"
	"inquest/name"
)

// bad is a symbol with an error.
type bad struct {
	what string
	s    name.Symbol
	want api.Errno
}

// badSymbols has symbols for all errors of Check, and for their order.
func badSymbols() []bad {
	digit := plain("1")
	noParts := name.Type{Kind: name.Plain}
	l := []bad{
		{"no parts", name.Symbol{}, api.ErrForm},
		{"no parts, and a wrong type", name.Symbol{Takes: []name.Type{{}}}, api.ErrForm},
		{"21 parts", name.Symbol{Name: make([]name.Part, 21)}, api.ErrLarge},
		{"20 empty parts", name.Symbol{Name: make([]name.Part, 20)}, api.ErrForm},
		{"empty text", name.Symbol{Name: parts("a.")}, api.ErrForm},
		{"empty text with 21 args", name.Symbol{Name: []name.Part{made("", make([]name.Type, 21)...)}}, api.ErrForm},
		{"61 bytes", name.Symbol{Name: parts(word(61))}, api.ErrLarge},
		{"61 wrong bytes", name.Symbol{Name: parts(strings.Repeat("-", 61))}, api.ErrLarge},
		{"a digit first", name.Symbol{Name: parts("1a")}, api.ErrByte},
		{"a wrong byte at last", name.Symbol{Name: parts(word(59) + "-")}, api.ErrByte},
		{"a wrong byte, and 21 args", name.Symbol{Name: []name.Part{made("-", make([]name.Type, 21)...)}}, api.ErrByte},
		{"21 args", name.Symbol{Name: []name.Part{made("a", make([]name.Type, 21)...), {}}}, api.ErrLarge},
		{"20 wrong args", name.Symbol{Name: []name.Part{made("a", make([]name.Type, 20)...), {}}}, api.ErrKind},
		{"a wrong arg before an empty part", name.Symbol{Name: []name.Part{made("a", digit), {}}}, api.ErrByte},
		{"an empty part before a wrong arg", name.Symbol{Name: []name.Part{{}, made("a", digit)}}, api.ErrForm},
		{"a wrong name, and 21 types", name.Symbol{Name: parts("-"), Takes: make([]name.Type, 21)}, api.ErrByte},
		{"21 types", takes(make([]name.Type, 21)...), api.ErrLarge},
		{"20 wrong types", takes(make([]name.Type, 20)...), api.ErrKind},
		{"13 within one another", takes(chain(13)), api.ErrDeep},
		{"13 within one another in a name", name.Symbol{Name: []name.Part{made("a", chain(13)), {}}}, api.ErrDeep},
		{"deep, and of no kind", takes(function(plain("a"), within(12, name.Type{}))), api.ErrDeep},
		{"not deep, and of no kind", takes(within(11, name.Type{})), api.ErrKind},
		{"501 types", takes(crowd(501)), api.ErrLarge},
		{"501 types in all", name.Symbol{Name: []name.Part{made("a", crowd(250))}, Takes: []name.Type{crowd(250), plain("a")}}, api.ErrLarge},
		{"number 501 of no kind", takes(crowd(500), name.Type{}), api.ErrLarge},
		{"number 500 of no kind", takes(crowd(499), name.Type{}, crowd(9)), api.ErrKind},
		{"number 501, and deep", takes(crowd(488), chain(13)), api.ErrDeep},
		{"number 501, and not deep", takes(crowd(489), chain(12)), api.ErrLarge},
		{"a plain with Of", takes(name.Type{Kind: name.Plain, Name: parts(word(61)), Of: []name.Type{{}}}), api.ErrForm},
		{"a plain with 22 Of", takes(name.Type{Kind: name.Plain, Name: parts("a"), Of: make([]name.Type, 22)}), api.ErrForm},
		{"a plain without parts", takes(noParts), api.ErrForm},
		{"a plain of 21 parts", takes(name.Type{Kind: name.Plain, Name: make([]name.Part, 21)}), api.ErrLarge},
		{"a plain of 61 bytes", takes(plain("a."+word(61)), digit), api.ErrLarge},
		{"a plain with 21 args", takes(named(made("a", make([]name.Type, 21)...)), digit), api.ErrLarge},
		{"no ref", takes(ref()), api.ErrForm},
		{"two refs", takes(ref(digit, digit)), api.ErrForm},
		{"22 refs", takes(ref(make([]name.Type, 22)...)), api.ErrForm},
		{"no list", takes(list()), api.ErrForm},
		{"two lists", takes(list(digit, digit)), api.ErrForm},
		{"a function of none", takes(function()), api.ErrForm},
		{"a function of 22", takes(function(make([]name.Type, 22)...)), api.ErrLarge},
		{"a function of 21 wrong ones", takes(function(make([]name.Type, 21)...)), api.ErrKind},
		{"a wrong type in a ref", takes(ref(digit), ref()), api.ErrByte},
		{"a wrong type in a list", takes(list(list(digit)), ref()), api.ErrByte},
		{"a wrong type at last in a function", takes(function(plain("a"), plain("b"), noParts), digit), api.ErrForm},
		{"the first of two", takes(digit, noParts), api.ErrByte},
		{"the first of two in a function", takes(function(noParts, digit), digit), api.ErrForm},
	}
	for _, kind := range []int{0, -1, 5, math.MinInt, math.MaxInt} {
		l = append(l, bad{"kind", takes(name.Type{Kind: kind, Name: parts("-"), Of: []name.Type{digit}}), api.ErrKind})
	}
	for kind := name.Ref; kind <= name.Func; kind++ {
		l = append(l, bad{"a name", takes(name.Type{Kind: kind, Name: parts("-"), Of: []name.Type{digit}}), api.ErrForm})
		l = append(l, bad{"a name and 22 types", takes(name.Type{Kind: kind, Name: parts("-"), Of: make([]name.Type, 22)}), api.ErrForm})
	}
	return l
}

// within is a type within so many others.
func within(n int, t name.Type) name.Type {
	for range n {
		t = ref(t)
	}
	return t
}

// P3.1
func TestErrors(t *testing.T) {
	for _, b := range badSymbols() {
		if e := name.Check(b.s); e != b.want {
			t.Errorf("%s: %v, not %v", b.what, e, b.want)
		}
		if n, e := name.Types(b.s); n != 0 || e != b.want {
			t.Errorf("%s: Types %d %v", b.what, n, e)
		}
		if s, e := name.Mangle(b.s); s != "" || e != b.want {
			t.Errorf("%s: Mangle %q %v", b.what, s, e)
		}
		if s, e := name.Print(b.s); s != "" || e != b.want {
			t.Errorf("%s: Print %q %v", b.what, s, e)
		}
		if s, e := name.Bare(b.s); !zero(s) || e != b.want {
			t.Errorf("%s: Bare %v %v", b.what, s, e)
		}
	}
}

// P3.1: what may be, at most.
func TestGood(t *testing.T) {
	cases := []struct {
		s     name.Symbol
		types int
	}{
		{name.Symbol{Name: parts("f")}, 0},
		{name.Symbol{Name: parts(strings.Repeat("f.", 19) + word(60))}, 0},
		{takes(plain("a")), 1},
		{takes(slices.Repeat([]name.Type{plain("a")}, 20)...), 20},
		{name.Symbol{Name: []name.Part{made("f", slices.Repeat([]name.Type{ref(plain("a"))}, 20)...)}}, 40},
		{takes(function(slices.Repeat([]name.Type{plain("a")}, 21)...)), 22},
		{takes(function(plain("a"))), 2},
		{takes(chain(12)), 12},
		{takes(within(11, plain("a")), within(11, plain("b"))), 24},
		{takes(crowd(500)), 500},
		{name.Symbol{Name: []name.Part{made("a", crowd(250)), made("b", crowd(49))}, Takes: []name.Type{crowd(200), plain("a")}}, 500},
		{takes(crowd(488), chain(12)), 500},
		{takes(plain("ref"), plain("list"), plain("func")), 3},
		{takes(named(made("a", named(made("b", plain("c"), plain("c"))), list(plain("d"))), made("e", plain("f")))), 7},
	}
	for i, c := range cases {
		if e := name.Check(c.s); e != api.OK {
			t.Error(i, e)
		}
		if n, e := name.Types(c.s); n != c.types || e != api.OK {
			t.Error(i, n, e)
		}
	}
	randomSymbols(t, 1, func(r *rand.Rand, s name.Symbol) {
		// Of a type alone its kind is told as a number.
		want := 0
		for kind := name.Plain; kind <= name.Func; kind++ {
			want += strings.Count(all(s), fmt.Sprintf("{%d ", kind))
		}
		if n, e := name.Types(s); n != want || e != api.OK {
			t.Fatal(s, n, e)
		}
	})
}

// P3.1: the bytes of identifiers.
func TestBytes(t *testing.T) {
	for b := range 256 {
		c := string([]byte{byte(b)})
		first := strings.Contains("abcdefghijklmnopqrstuvwxyzABCDEFGHIJKLMNOPQRSTUVWXYZ_", c)
		behind := first || strings.Contains("0123456789", c)
		for text, ok := range map[string]bool{c: first, c + "a": first, "a" + c: behind, "a" + c + "z": behind, "_9" + c: behind} {
			want := api.ErrByte
			if ok {
				want = api.OK
			}
			for _, s := range []name.Symbol{{Name: []name.Part{{Text: text}}}, takes(named(name.Part{Text: "a"}, name.Part{Text: text}))} {
				if e := name.Check(s); e != want {
					t.Errorf("%q: %v", text, e)
				}
			}
		}
	}
}

// P3.1: Same.
func TestSame(t *testing.T) {
	l := []name.Symbol{
		{}, {Name: parts("")}, {Name: parts("a")}, {Name: parts("b")}, {Name: parts("a.b")}, {Name: parts("b.a")},
		{Name: []name.Part{made("a", plain("b"))}}, {Name: []name.Part{made("a", plain("c"))}}, {Name: []name.Part{made("a", plain("b"), plain("b"))}},
		{Name: []name.Part{made("a", plain("b")), made("b")}}, {Name: []name.Part{made("a"), made("b", plain("b"))}},
		takes(plain("a")), takes(plain("b")), takes(plain("a"), plain("b")), takes(plain("b"), plain("a")), takes(ref(plain("a"))), takes(list(plain("a"))), takes(function(plain("a"))),
		takes(ref()), takes(name.Type{}), takes(name.Type{Kind: 9}), takes(name.Type{}, name.Type{}), takes(name.Type{Name: parts("a")}), takes(name.Type{Kind: name.Plain, Name: parts("a"), Of: []name.Type{{}}}),
		takes(function(plain("a"), plain("b"))), takes(function(plain("b"), plain("a"))), takes(function(plain("a")), plain("b")), takes(function(plain("a"), function(plain("b")))),
		takes(named(made("a", list(plain("b"))))), takes(named(made("a", list(plain("c"))))), takes(chain(12)), takes(chain(13)), takes(chain(20)),
	}
	for i, a := range l {
		for j, b := range l {
			if ok := name.Same(a, b); ok != (i == j) {
				t.Error(a, b, ok)
			}
		}
	}
	empty := name.Symbol{Name: []name.Part{{Text: "f", Args: []name.Type{}}}, Takes: []name.Type{{Kind: name.Plain, Name: []name.Part{{Text: "a", Args: []name.Type{}}}, Of: []name.Type{}}}}
	if !name.Same(empty, takes(plain("a"))) || !name.Same(name.Symbol{Name: []name.Part{}, Takes: []name.Type{}}, name.Symbol{}) {
		t.Error("empty and nil lists are the same")
	}
	var before name.Symbol
	randomSymbols(t, 2, func(r *rand.Rand, s name.Symbol) {
		again, _, _ := name.Demangle(plainMangle(s))
		if !name.Same(s, again) || name.Same(s, before) != (all(s) == all(before)) {
			t.Fatal(s, before)
		}
		before = s
	})
}

// P3.1 and Z1: lists that have parts of one memory are compared by what is in them.
func TestSameMemory(t *testing.T) {
	l := []name.Type{plain("a"), plain("a"), plain("b")}
	for i := range 4 {
		for j := range 4 {
			a, b := takes(function(l[:i]...), list(l[:j]...)), takes(function(l[:j]...), list(l[:i]...))
			if ok := name.Same(a, b); ok != (i == j) {
				t.Error(i, j, ok)
			}
		}
	}
	other := []name.Type{plain("a"), plain("b"), plain("b")}
	if name.Same(takes(list(l[:1]...), list(l[:2]...)), takes(list(other[:1]...), list(other[:2]...))) || name.Same(takes(list(l[:2]...), list(l[:1]...)), takes(list(other[:2]...), list(other[:1]...))) {
		t.Error("lists that begin with equal ones")
	}
	if !name.Same(takes(l[:1]...), takes(l[1:2]...)) || name.Same(takes(l[:2]...), takes(l[1:]...)) {
		t.Error("other lists of one memory")
	}
}
