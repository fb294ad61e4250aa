package name_test

import (
	"math/rand"
	"strings"
	"testing"

	"inquest/api"
	"inquest/name"
)

// pair is a symbol, as it is mangled and printed.
type pair struct {
	s                name.Symbol
	mangled, printed string
}

func pairs() []pair {
	put := name.Symbol{Name: []name.Part{{Text: "map"}, made("of", list(plain("int"))), {Text: "put"}}, Takes: []name.Type{list(plain("int")), ref(list(plain("int")))}}
	box := named(made("box", plain("a")), made("in", plain("a"), plain("b")))
	var many []name.Type
	mangled, printed := "", ""
	for i := range 14 {
		c := string(rune('a' + i))
		many = append(many, plain(c))
		mangled += "N1" + c + "E"
		printed += c + ", "
	}
	return []pair{
		{put, "QN3map2ofILN3intEE3putES1_RS1_Z", "map.of<list int>.put(list int, ref list int)"},
		{name.Symbol{Name: parts("f")}, "QN1fEZ", "f()"},
		{name.Symbol{Name: parts("ref.list.func")}, "QN3ref4list4funcEZ", "ref.list.func()"},
		{name.Symbol{Name: []name.Part{made("func", plain("a.func"))}}, "QN4funcIN1a4funcEEEZ", "func<a.func>()"},
		{takes(plain("a"), plain("a"), plain("a")), "QN1fEN1aES0_S0_Z", "f(a, a, a)"},
		{takes(plain("f"), plain("f.f"), plain("f")), "QN1fEN1fEN1f1fES0_Z", "f(f, f.f, f)"},
		{takes(list(ref(plain("a"))), ref(plain("a")), plain("a"), list(ref(plain("a")))), "QN1fELRN1aES1_S0_S2_Z", "f(list ref a, ref a, a, list ref a)"},
		{takes(list(list(list(plain("a"))))), "QN1fELLLN1aEZ", "f(list list list a)"},
		{takes(function(plain("a")), function(plain("a"), plain("a")), function(plain("a"))), "QN1fEFN1aEEFS0_S0_ES1_Z", "f(func() a, func(a) a, func() a)"},
		{takes(function(plain("a"), plain("b"), function(plain("b"), plain("a")))), "QN1fEFN1aEN1bEFS1_S0_EEZ", "f(func(a, b) func(b) a)"},
		{takes(box, box, plain("b")), "QN1fEN3boxIN1aEE2inIS0_N1bEEES2_S1_Z", "f(box<a>.in<a, b>, box<a>.in<a, b>, b)"},
		{name.Symbol{Name: []name.Part{made("f", plain("a")), made("g", plain("a"), list(plain("a")))}, Takes: []name.Type{list(plain("a")), plain("f")}}, "QN1fIN1aEE1gIS0_LS0_EES1_N1fEZ", "f<a>.g<a, list a>(list a, f)"},
		{takes(named(made("of", named(made("of", named(made("of", plain("of"))))))), named(made("of", plain("of")))), "QN1fEN2ofIN2ofIN2ofIN2ofEEEEEEES1_Z", "f(of<of<of<of>>>, of<of>)"},
		{takes(function(many...), plain("n"), plain("k")), "QN1fEF" + mangled + "ES13_S10_Z", "f(func(" + printed[:len(printed)-5] + ") n, n, k)"},
		{takes(plain("refs"), plain("list_"), plain("Func"), list(plain("funcs"))), "QN1fEN4refsEN5list_EN4FuncELN5funcsEZ", "f(refs, list_, Func, list funcs)"},
		{name.Symbol{Name: parts("_9.A"), Takes: []name.Type{plain(word(60))}}, "QN2_91AEN60" + word(60) + "EZ", "_9.A(" + word(60) + ")"},
	}
}

// P3.2 to P3.4
func TestPairs(t *testing.T) {
	for _, p := range pairs() {
		if s, e := name.Mangle(p.s); s != p.mangled || e != api.OK {
			t.Errorf("%q %v, not %q", s, e, p.mangled)
		}
		if s, n, e := name.Demangle(p.mangled); all(s) != all(p.s) || n != 0 || e != api.OK {
			t.Errorf("%q: %v %d %v", p.mangled, s, n, e)
		}
		if s, e := name.Print(p.s); s != p.printed || e != api.OK {
			t.Errorf("%q %v, not %q", s, e, p.printed)
		}
		if s, n, e := name.Parse(p.printed); all(s) != all(p.s) || n != 0 || e != api.OK {
			t.Errorf("%q: %v %d %v", p.printed, s, n, e)
		}
	}
}

// P3.2, and what follows: Demangle of Mangle is the symbol.
func TestMangled(t *testing.T) {
	randomSymbols(t, 3, func(r *rand.Rand, x name.Symbol) {
		text, e := name.Mangle(x)
		if text != plainMangle(x) || e != api.OK {
			t.Fatalf("%q %v, not %q", text, e, plainMangle(x))
		}
		if s, n, e := name.Demangle(text); all(s) != all(x) || n != 0 || e != api.OK {
			t.Fatalf("%q: %v %d %v", text, s, n, e)
		}
	})
}

// P3.2 and P3.3: the greatest symbols, and those that are too great.
func TestLongMangled(t *testing.T) {
	for _, n := range []int{7990, 7999, 8000} {
		x := long(t, n, plainMangle)
		text, e := name.Mangle(x)
		if len(text) != n || e != api.OK {
			t.Fatal(n, len(text), e)
		}
		if s, at, e := name.Demangle(text); all(s) != all(x) || at != 0 || e != api.OK {
			t.Error(n, at, e)
		}
	}
	for _, n := range []int{8001, 8050} {
		x := long(t, n, plainMangle)
		if text, e := name.Mangle(x); text != "" || e != api.ErrLarge {
			t.Error(n, len(text), e)
		}
		if s, at, e := name.Demangle(plainMangle(x)); !zero(s) || at != 0 || e != api.ErrLarge {
			t.Error(n, at, e)
		}
	}
	for _, text := range []string{strings.Repeat("x", 8001), strings.Repeat("x", 1_000_000), "QN1fEZ" + word(8000)} {
		if s, at, e := name.Demangle(text); !zero(s) || at != 0 || e != api.ErrLarge {
			t.Error(len(text), at, e)
		}
	}
	if s, at, e := name.Demangle(strings.Repeat("x", 8000)); !zero(s) || at != 0 || e != api.ErrSyntax {
		t.Error(at, e)
	}
	// Equal types make what is written shorter than the symbol is.
	full := plain(strings.Repeat(word(60)+".", 19) + word(60))
	x := takes(full, full, full, full, full, full, full, function(full, full))
	if text, e := name.Mangle(x); text != plainMangle(x) || len(text) > 1500 || e != api.OK {
		t.Error(len(text), e)
	}
	if text, e := name.Print(x); text != "" || e != api.ErrLarge {
		t.Error(len(text), e)
	}
}
