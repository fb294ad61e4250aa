package name_test

import (
	"math/rand"
	"strings"
	"testing"

	"inquest/api"
	"inquest/name"
)

// misread tells whether a plain type has a word where its name begins.
func misread(s name.Symbol) bool {
	found := false
	var look func(l []name.Type)
	lookName := func(l []name.Part) {
		for _, p := range l {
			look(p.Args)
		}
	}
	look = func(l []name.Type) {
		for _, t := range l {
			if t.Kind == name.Plain {
				text := t.Name[0].Text
				found = found || text == "ref" || text == "list" || text == "func"
			}
			lookName(t.Name)
			look(t.Of)
		}
	}
	lookName(s.Name)
	look(s.Takes)
	return found
}

// P3.4, and what follows: Parse of Print is the symbol.
func TestPrinted(t *testing.T) {
	written, refused := 0, 0
	randomSymbols(t, 5, func(r *rand.Rand, x name.Symbol) {
		text, e := name.Print(x)
		if misread(x) {
			refused++
			if text != "" || e != api.ErrName {
				t.Fatal(x, text, e)
			}
			return
		}
		written++
		if text != plainPrint(x) || e != api.OK {
			t.Fatalf("%q %v, not %q", text, e, plainPrint(x))
		}
		if s, n, e := name.Parse(text); all(s) != all(x) || n != 0 || e != api.OK {
			t.Fatalf("%q: %v %d %v", text, s, n, e)
		}
	})
	if written < 1000 || refused < 1000 {
		t.Error(written, refused)
	}
}

// P3.4: ErrName.
func TestWords(t *testing.T) {
	for _, w := range []string{"ref", "list", "func"} {
		hidden := named(made("a", function(plain("b"), ref(plain(w)))))
		for _, s := range []name.Symbol{
			takes(plain(w)), takes(plain("a"), plain(w)), takes(plain(w + ".a")), takes(named(made(w, plain("a")))), takes(ref(plain(w))), takes(list(plain(w))), takes(function(plain(w))), takes(function(plain(w), plain("a"))),
			takes(hidden), {Name: []name.Part{made("f", plain(w))}}, {Name: []name.Part{made("f"), made("g", plain("a"), hidden)}},
		} {
			if text, e := name.Print(s); text != "" || e != api.ErrName {
				t.Error(s, text, e)
			}
			if e := name.Check(s); e != api.OK {
				t.Error(s, e)
			}
		}
		for _, s := range []name.Symbol{{Name: parts(w)}, {Name: parts(w + "." + w)}, takes(plain("a." + w)), {Name: []name.Part{made(w, named(made("a"), made(w, plain("b"))))}}, takes(plain(w + "s")), takes(plain("_" + w)), takes(plain(strings.ToUpper(w)))} {
			text, e := name.Print(s)
			if text != plainPrint(s) || e != api.OK {
				t.Error(s, text, e)
			}
			if x, n, e := name.Parse(text); all(x) != all(s) || n != 0 || e != api.OK {
				t.Error(text, x, n, e)
			}
		}
	}
}

// P3.4: the greatest symbols, those that are too great, and the order of errors.
func TestLongPrinted(t *testing.T) {
	for _, n := range []int{7990, 7999, 8000} {
		x := long(t, n, plainPrint)
		text, e := name.Print(x)
		if len(text) != n || e != api.OK {
			t.Fatal(n, len(text), e)
		}
		if s, at, e := name.Parse(text); all(s) != all(x) || at != 0 || e != api.OK {
			t.Error(n, at, e)
		}
	}
	for _, n := range []int{8001, 8050} {
		x := long(t, n, plainPrint)
		if text, e := name.Print(x); text != "" || e != api.ErrLarge {
			t.Error(n, len(text), e)
		}
		if s, at, e := name.Parse(plainPrint(x)); !zero(s) || at != 0 || e != api.ErrLarge {
			t.Error(n, at, e)
		}
		x.Takes[0].Name[0].Text = "ref"
		if text, e := name.Print(x); text != "" || e != api.ErrName {
			t.Error(n, len(text), e)
		}
		x.Takes[1].Name[0].Text = "1"
		if text, e := name.Print(x); text != "" || e != api.ErrByte {
			t.Error(n, len(text), e)
		}
	}
	for _, text := range []string{strings.Repeat("-", 8001), strings.Repeat("x", 1_000_000), "f()" + word(8000)} {
		if s, at, e := name.Parse(text); !zero(s) || at != 0 || e != api.ErrLarge {
			t.Error(len(text), at, e)
		}
	}
	refuses(t, name.Parse, strings.Repeat("-", 8000), 0)
	refuses(t, name.Parse, strings.Repeat("x", 8000), 8000)
}

// P3.4: bytes that cannot stand where they stand.
func TestWrongPrinted(t *testing.T) {
	for text, at := range map[string]int{
		"": 0, "(": 0, "1()": 0, " f()": 0, ".f()": 0, "<a>()": 0, "-()": 0, "\xff": 0, "\x00": 0, ")": 0, "é()": 0,
		"f": 1, "f ()": 1, "f)": 1, "f>": 1, "f,": 1, "f-()": 1, "f\x00": 1, "f1f-": 3, "fé()": 1,
		"f.": 2, "f..g()": 2, "f.1()": 2, "f.()": 2, "f. g()": 2, "f.<a>()": 2, "f.g.": 4, "f.g.h": 5, "ref x()": 3, "list ": 4, "func(b) c": 7,
		"f<": 2, "f<>()": 2, "f<1>()": 2, "f< a>()": 2, "f<(": 2, "f<a": 3, "f<a()": 3, "f<a )": 3, "f<a,": 4, "f<a,b>()": 4, "f<a,  b>()": 5, "f<a, >()": 5, "f<a, ": 5, "f<a>": 4, "f<a>g": 4, "f<a><b>()": 4, "f<a> ()": 4, "f<a>.": 5, "f<a>>": 4, "f<a<b>": 6, "f<a<b>>": 7, "f<a<b>>>": 7, "f<a.b": 5, "f<a.": 4, "f<a, b": 6,
		"f(": 2, "f(1)": 2, "f( )": 2, "f(,": 2, "f((": 2, "f(a": 3, "f(a>": 3, "f(a )": 3, "f(a b)": 3, "f(a,": 4, "f(a,b)": 4, "f(a,)": 4, "f(a, )": 5, "f(a, ": 5, "f(a,  b)": 5, "f(a, b": 6, "f(a(": 3, "f(a<": 4, "f(a<>)": 4, "f(a<b)": 5, "f(a.)": 4, "f(a..b)": 4,
		"f()b": 3, "f() ": 3, "f()()": 3, "f()\n": 3, "f())": 3, "f(a).b": 4, "f(a)f(a)": 4,
		"f(ref": 5, "f(ref)": 5, "f(ref,": 5, "f(ref.b)": 5, "f(ref<b>)": 5, "f(ref(a) b)": 5, "f(ref\x00": 5, "f(ref ": 6, "f(ref )": 6, "f(ref 1)": 6, "f(ref  a)": 6, "f(ref ref": 9, "f(ref ref)": 9, "f(ref a b)": 7, "f(refs b)": 6, "f(ref1 b)": 6, "f(ref_(": 6, "f(Ref b)": 5, "f<ref>()": 5, "f<ref.a>()": 5, "f<a, ref>": 8, "f(a<ref": 7, "f(re f": 4,
		"f(list)": 6, "f(list  b)": 7, "f(list.b)": 6, "f(list": 6, "f(list ": 7, "f(list<b>)": 6, "f(list list.b)": 11, "f(list ref func": 15, "f(lists b": 7,
		"f(func": 6, "f(func)": 6, "f(func b)": 6, "f(func.a)": 6, "f(func<a>)": 6, "f(func ": 6, "f(func (a) b)": 6, "f(func(": 7, "f(func(,": 7, "f(func( ": 7, "f(func()": 8, "f(func())": 8, "f(func(),": 8, "f(func()b)": 8, "f(func()  b)": 9, "f(func() ": 9, "f(func() )": 9, "f(func(b))": 9, "f(func(b,c) d)": 9, "f(func(b, c)": 12, "f(func(b, c) d": 14, "f(func(b, c) d e)": 14, "f(func(b, ": 10, "f(func(ref) b)": 10, "f(func(a) func)": 14, "f(func(a) func b)": 14, "f(func() func() ": 16, "f(funcs() b)": 7,
	} {
		refuses(t, name.Parse, text, at)
	}
	for _, p := range pairs() {
		for i := range p.printed {
			refuses(t, name.Parse, p.printed[:i], i)
		}
		for _, behind := range []string{")", "(", "\x00", "\n", " ", ", a", "f()", "_"} {
			refuses(t, name.Parse, p.printed+behind, len(p.printed))
		}
	}
}

// P3.4: types within one another.
func TestDeepPrinted(t *testing.T) {
	for _, w := range []string{"ref ", "list ", "func() "} {
		deep := "f(" + strings.Repeat(w, 11)
		if s, n, e := name.Parse(deep + "a)"); n != 0 || e != api.OK || len(s.Takes) != 1 {
			t.Error(w, n, e)
		}
		for _, behind := range []string{"a)", "", "-", "ref a)", "ref", "list", "func", "func(", "a.b<c>)"} {
			refuses(t, name.Parse, deep+w+behind, 2+12*len(w))
		}
		refuses(t, name.Parse, deep+"a<b>)", len(deep)+2)
		refuses(t, name.Parse, deep+"func(a) b)", len(deep)+5)
		refuses(t, name.Parse, deep+"func() b)", len(deep)+7)
		refuses(t, name.Parse, deep+"func)", len(deep)+4)
	}
	args := strings.Repeat("a<", 12)
	if _, n, e := name.Parse("f<" + args[:22] + "a" + strings.Repeat(">", 11) + ">()"); n != 0 || e != api.OK {
		t.Error(n, e)
	}
	refuses(t, name.Parse, "f<"+args+"a"+strings.Repeat(">", 13)+"()", 26)
}

// P3.4: Check's errors, behind those of the string.
func TestLargePrinted(t *testing.T) {
	list := func(n int, part, between string) string {
		return strings.Join(strings.Split(strings.Repeat(part, n), ""), between)
	}
	many := "func(" + list(20, "a", ", ") + ") a" // 22 types
	types := strings.Repeat(many+", ", 19)        // 418 types
	last := "func(" + strings.Repeat("list a, ", 19) + "list a) list a"
	cases := []struct {
		text string
		want api.Errno
	}{
		{word(60) + "(", api.OK}, {word(61) + "(", api.ErrLarge}, {"f." + word(60) + "(", api.OK}, {"f." + word(61) + "(", api.ErrLarge}, {"f(" + word(60), api.OK}, {"f(" + word(61), api.ErrLarge}, {"f(a<" + word(7000) + ">", api.ErrLarge},
		{list(20, "f", ".") + "(", api.OK}, {list(21, "f", ".") + "(", api.ErrLarge}, {"f(" + list(20, "a", "."), api.OK}, {"f(" + list(21, "a", "."), api.ErrLarge},
		{"f<" + list(20, "a", ", ") + ">(", api.OK}, {"f<" + list(21, "a", ", ") + ">(", api.ErrLarge}, {"f(a<" + list(20, "a", ", ") + ">", api.OK}, {"f(a<" + list(21, "a", ", ") + ">", api.ErrLarge},
		{"f(" + list(20, "a", ", "), api.OK}, {"f(" + list(21, "a", ", "), api.ErrLarge}, {"f(" + many, api.OK}, {"f(func(" + list(21, "a", ", ") + ") a", api.ErrLarge},
		{"f(" + types + last, api.OK}, {"f<" + many + ">(" + types + last, api.OK}, {"f<" + many + ", list list list list list list list list list list list a" + ">(" + types + last, api.OK}, {"f<" + many + ", list list list list list list list list list list list a, list a, list a, list a" + ">(" + types + last, api.ErrLarge}, {"f<" + many + ", list list list list list list list list list list list a, list a, list a, a" + ">(" + types + last, api.OK},
		{"f<" + list(20, "a", ", ") + ", list a>(" + types + last, api.ErrLarge}, {"f<" + list(17, "a", ", ") + ", " + many + ">(" + types + last, api.OK}, {"f<" + list(18, "a", ", ") + ", " + many + ">(" + types + last, api.ErrLarge},
		{list(4000, "f", ".")[:7990] + "f(", api.ErrLarge},
	}
	for _, c := range cases {
		s, n, e := name.Parse(c.text + ")")
		if n != 0 || e != c.want || e != api.OK && !zero(s) {
			t.Errorf("%.200q: %d %v, not %v", c.text, n, e, c.want)
		}
		// An error of the string comes before.
		refuses(t, name.Parse, c.text, len(c.text))
		refuses(t, name.Parse, c.text+"-", len(c.text))
		refuses(t, name.Parse, c.text+"))", len(c.text)+1)
	}
}

// rule is a part of the form of a printed symbol: it tells whether it can stand at an offset, so that what comes then can stand behind it.
type rule func(at int, then func(at int) bool) bool

// form is a string that is read in all ways, and the greatest offset to which it can be read in one.
type form struct {
	text string
	far  int
}

func (f *form) stop(at int) bool {
	f.far = max(f.far, at)
	return false
}

func nothing(at int, then func(int) bool) bool { return then(at) }

func row(l ...rule) rule {
	return func(at int, then func(int) bool) bool {
		for i := len(l) - 1; i > 0; i-- {
			behind := then
			then = func(at int) bool { return l[i](at, behind) }
		}
		return l[0](at, then)
	}
}

func either(l ...rule) rule {
	return func(at int, then func(int) bool) bool {
		ok := false
		for _, r := range l {
			ok = r(at, then) || ok
		}
		return ok
	}
}

func (f *form) mark(w string) rule {
	return func(at int, then func(int) bool) bool {
		for i := range len(w) {
			if at+i == len(f.text) || f.text[at+i] != w[i] {
				return f.stop(at + i)
			}
		}
		return then(at + len(w))
	}
}

func (f *form) many(r rule, between string) rule {
	return func(at int, then func(int) bool) bool {
		return row(r, either(nothing, row(f.mark(between), f.many(r, between))))(at, then)
	}
}

func (f *form) identifier(words bool) rule {
	return func(at int, then func(int) bool) bool {
		end := at
		for end < len(f.text) && (strings.IndexByte("abcdefghijklmnopqrstuvwxyzABCDEFGHIJKLMNOPQRSTUVWXYZ_", f.text[end]) >= 0 || end > at && strings.IndexByte("0123456789", f.text[end]) >= 0) {
			end++
		}
		s := f.text[at:end]
		if s == "" || !words && (s == "ref" || s == "list" || s == "func") {
			return f.stop(at)
		}
		return then(end)
	}
}

func (f *form) args(within int) rule {
	return either(nothing, row(f.mark("<"), f.many(f.oneType(within), ", "), f.mark(">")))
}

func (f *form) name(words bool, within int) rule {
	part := row(f.identifier(true), f.args(within))
	return row(f.identifier(words), f.args(within), either(nothing, row(f.mark("."), f.many(part, "."))))
}

func (f *form) takes(within int) rule {
	return row(f.mark("("), either(nothing, f.many(f.oneType(within), ", ")), f.mark(")"))
}

func (f *form) oneType(within int) rule {
	return func(at int, then func(int) bool) bool {
		if within == 12 {
			return f.stop(at)
		}
		inner := f.oneType(within + 1)
		return either(f.name(false, within+1), row(f.mark("ref "), inner), row(f.mark("list "), inner), row(f.mark("func"), f.takes(within+1), f.mark(" "), inner))(at, then)
	}
}

// plainParse is the offset of the error of a string; -1, if it has none but Check's.
func plainParse(text string) int {
	f := &form{text: text}
	if row(f.name(true, 0), f.takes(0))(0, func(at int) bool { return at == len(text) || f.stop(at) }) {
		return -1
	}
	return f.far
}

// P3.4: strings that are near to printed symbols.
func TestChangedPrinted(t *testing.T) {
	marks := []string{"a", "b", "1", "_", ".", "<", ">", "(", ")", ",", " ", ", ", "ref", "list", "func", "ref ", "list ", "func(", "func() ", ", a", "<a>", ".a", "-", "\xff", "list list list list ", "a<a<a<a<a<", "ref ref ref ref "}
	changes(t, 6, printedForm(), marks)
}

// P3.4: all short strings of some marks.
func TestAllPrinted(t *testing.T) {
	marks := []string{"a", "1", ".", "<", ">", "(", ")", ",", " ", "ref", "list", "func"}
	w, taken := printedForm(), 0
	for _, begin := range []string{"", "a(", "a(b", "a<b", "a(func(", "a(func(b", "a(ref "} {
		for n := range 12 * 12 * 12 * 12 {
			text := begin
			for range 4 {
				text += marks[n%12]
				n /= 12
			}
			if w.compares(t, text) {
				taken++
			}
		}
	}
	if taken < 50 {
		t.Error(taken)
	}
}
