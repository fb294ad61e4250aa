package name_test

import (
	"fmt"
	"math/rand"
	"slices"
	"strconv"
	"strings"
	"testing"

	"inquest/api"
	"inquest/name"
)

// P3.5
func TestBare(t *testing.T) {
	cases := []struct{ s, want name.Symbol }{
		{takes(plain("a"), list(plain("b"))), takes()},
		{takes(), takes()},
		{name.Symbol{Name: []name.Part{made("a", plain("b")), made("c"), made("a", plain("b"), plain("d"))}}, name.Symbol{Name: parts("a.c.a")}},
		{name.Symbol{Name: parts("ref.list"), Takes: []name.Type{plain("func")}}, name.Symbol{Name: parts("ref.list")}},
		{takes(crowd(500)), takes()},
	}
	for _, c := range cases {
		if s, e := name.Bare(c.s); all(s) != all(c.want) || e != api.OK {
			t.Error(c.s, s, e)
		}
	}
	randomSymbols(t, 7, func(r *rand.Rand, x name.Symbol) {
		s, e := name.Bare(x)
		if len(s.Name) != len(x.Name) || len(s.Takes) != 0 || e != api.OK {
			t.Fatal(x, s, e)
		}
		for i, p := range s.Name {
			if p.Text != x.Name[i].Text || len(p.Args) != 0 {
				t.Fatal(x, s)
			}
		}
	})
}

// P3.5
func TestShort(t *testing.T) {
	deep := "QN1a1bEN1cE"
	for i := range 12 {
		deep += fmt.Sprintf("LS%d_", i)
	}
	for text, want := range map[string]string{
		"QN1fEZ": "f", "QN1a1bEZ": "a.b", "QN1a1b1cEZ": "b.c", "QN3map2ofILN3intEE3putES1_RS1_Z": "of.put", "QN1aIN1bEE1cIS0_EEZ": "a.c", "QN1aIN1b1cEEEZ": "a", "QN3ref4listEZ": "ref.list",
		"QN" + strings.Repeat("1a", 18) + "1b1cEZ": "b.c", deep[:len(deep)-5] + "Z": "a.b",
		// what Demangle does not take
		"": "", "main": "main", "a.b.c": "a.b.c", "QN1fE": "QN1fE", "QN1fEZZ": "QN1fEZZ", " QN1fEZ": " QN1fEZ", "QN1fEN1aEN1aEZ": "QN1fEN1aEN1aEZ", "f()": "f()", "\xff\x00": "\xff\x00",
		"QN" + strings.Repeat("1a", 21) + "EZ": "QN" + strings.Repeat("1a", 21) + "EZ", deep + "Z": deep + "Z", word(9000): word(9000),
	} {
		if s := name.Short(text); s != want {
			t.Errorf("%q: %q, not %q", text, s, want)
		}
	}
	randomSymbols(t, 8, func(r *rand.Rand, x name.Symbol) {
		last := len(x.Name) - 1
		want := x.Name[last].Text
		if last > 0 {
			want = x.Name[last-1].Text + "." + want
		}
		if s := name.Short(plainMangle(x)); s != want {
			t.Fatal(x, s)
		}
		if s := name.Short(plainPrint(x)); s != plainPrint(x) {
			t.Fatal(x, s)
		}
	})
}

// P3.5
func TestFamilies(t *testing.T) {
	cases := []struct {
		l    []string
		want string
	}{
		{nil, "[]"}, {[]string{""}, "[[0]]"}, {[]string{"", "", "a"}, "[[0 1] [2]]"},
		{[]string{"x", "QN3mapEZ", "QN3mapEN3intEZ", "x", "QN1mEZ"}, "[[0 3] [1 2] [4]]"},
		{[]string{"QN1a1bEZ", "QN1aIN1cEE1bEZ", "QN1a1bIN1cEEEZ", "QN1aEZ", "QN1bEZ", "QN1b1aEZ", "QN1a1bEN1aES0_Z"}, "[[0 1 2 6] [3] [4] [5]]"},
		// what Demangle does not take, though it looks like the other ones
		{[]string{"a.b", "QN1a1bEZ", "a.b()", "QN1a1bE", "QN1a1bEZZ", "a.b", "QN1a1bEZ", "QN1a1bEN1aEN1aEZ", "a"}, "[[0 5] [1 6] [2] [3] [4] [7] [8]]"},
		{[]string{"QN2a_1bEZ", "QN1a2_bEZ", "QN4a_1bEZ"}, "[[0] [1] [2]]"},
		{[]string{"QN" + strings.Repeat("1a", 21) + "EZ", "QN" + strings.Repeat("1a", 20) + "EZ", "QN" + strings.Repeat("1a", 21) + "EN1bEZ"}, "[[0] [1] [2]]"},
		{[]string{"QN1aEZ" + word(8000), "QN1aEZ", "QN1aEZ" + word(8000), word(8001)}, "[[0 2] [1] [3]]"},
		{[]string{"b", "a", "b", "a", "c"}, "[[0 2] [1 3] [4]]"},
	}
	for _, c := range cases {
		if l, e := name.Families(c.l); fmt.Sprint(l) != c.want || e != api.OK {
			t.Errorf("%.100q: %v %v, not %v", c.l, l, e, c.want)
		}
	}
	for n, want := range map[int]api.Errno{2000: api.OK, 2001: api.ErrLarge, 100_000: api.ErrLarge} {
		l, e := name.Families(make([]string, n))
		if e != want || e == api.OK && (len(l) != 1 || len(l[0]) != n) || e != api.OK && len(l) != 0 {
			t.Error(n, len(l), e)
		}
	}
	var many []string
	for i := range 2000 {
		many = append(many, "QN1aI"+fmt.Sprintf("N5b%04dE", i)+"E"+fmt.Sprintf("1c%dx%02d", len(fmt.Sprintf("x%02d", i%20)), i%20)+"EZ")
	}
	if l, e := name.Families(many); len(l) != 20 || len(l[7]) != 100 || l[7][1] != 27 || e != api.OK {
		t.Error(len(l), e)
	}
}

// plainFamilies holds all strings against one another.
func plainFamilies(l []string) (r [][]int) {
	same := func(a, b string) bool {
		s, _, e := name.Demangle(a)
		u, _, f := name.Demangle(b)
		if e != api.OK || f != api.OK {
			return a == b
		}
		s, _ = name.Bare(s)
		u, _ = name.Bare(u)
		return name.Same(s, u)
	}
	for i, text := range l {
		at := slices.IndexFunc(r, func(family []int) bool { return same(l[family[0]], text) })
		if at < 0 {
			at = len(r)
			r = append(r, nil)
		}
		r[at] = append(r[at], i)
	}
	return r
}

// P3.5
func TestRandomFamilies(t *testing.T) {
	r := rand.New(rand.NewSource(9))
	for range 300 {
		var l []string
		for range r.Intn(60) {
			text := plainMangle(randomSymbol(r))
			switch r.Intn(6) {
			case 0:
				text = change(r, text, []string{"E", "Z", "1a"})
			case 1:
				text = strconv.Itoa(r.Intn(5))
			}
			l = append(l, text)
		}
		if got, e := name.Families(l); fmt.Sprint(got) != fmt.Sprint(plainFamilies(l)) || e != api.OK {
			t.Fatalf("%q: %v %v, not %v", l, got, e, plainFamilies(l))
		}
	}
}
