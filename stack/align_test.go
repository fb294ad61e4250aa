package stack_test

import (
	"math/rand"
	"slices"
	"testing"

	"inquest/api"
	"inquest/stack"
)

// P1.7
func TestAlign(t *testing.T) {
	cases := []struct {
		a, b string
		want [][2]int
	}{
		{"", "", nil}, {"a", "", nil}, {"", "a", nil}, {"a b", "c d", nil},
		{"a", "a", [][2]int{{0, 0}}},
		{"a b c", "a b c", [][2]int{{0, 0}, {1, 1}, {2, 2}}},
		{"a x b", "a y b", [][2]int{{0, 0}, {2, 2}}},
		// As many as possible, before the least.
		{"a b c", "b c a", [][2]int{{1, 0}, {2, 1}}},
		// The least by the position in a, then by that in b.
		{"a b", "b a", [][2]int{{0, 1}}},
		{"a a", "a", [][2]int{{0, 0}}},
		{"a", "b a a", [][2]int{{0, 1}}},
		{"a b a", "b a b", [][2]int{{0, 1}, {1, 2}}},
		{"a a b", "a b b", [][2]int{{0, 0}, {2, 1}}},
		{"a b c d", "c d a b", [][2]int{{0, 2}, {1, 3}}},
	}
	for _, c := range cases {
		if p, e := stack.Align(row(c.a), row(c.b)); !slices.Equal(p, c.want) || e != api.OK {
			t.Errorf("%q %q: %v %v, not %v", c.a, c.b, p, e, c.want)
		}
	}
	if p, e := stack.Align(many(200), many(200)); len(p) != 200 || p[199] != [2]int{199, 199} || e != api.OK {
		t.Error(len(p), e)
	}
}

// P1.7: frames are alike if Module, Func and File are equal.
func TestAlike(t *testing.T) {
	base := api.Frame{Module: "m", Func: "f", File: "x", Line: 1, Addr: 1, Own: true}
	for want, other := range map[int][]api.Frame{
		1: {base, {Module: "m", Func: "f", File: "x", Line: 2, Addr: 1, Own: true}, {Module: "m", Func: "f", File: "x", Line: 1, Addr: -1, Own: true}, {Module: "m", Func: "f", File: "x", Line: 1, Addr: 1}},
		0: {{Module: "n", Func: "f", File: "x", Line: 1, Addr: 1, Own: true}, {Module: "m", Func: "g", File: "x", Line: 1, Addr: 1, Own: true}, {Module: "m", Func: "f", File: "y", Line: 1, Addr: 1, Own: true}},
	} {
		for _, f := range other {
			if p, e := stack.Align([]api.Frame{base}, []api.Frame{f}); len(p) != want || e != api.OK {
				t.Error(f, p, e)
			}
			if n, e := stack.Near([]api.Frame{base}, []api.Frame{f}); n != 1000*want || e != api.OK {
				t.Error(f, n, e)
			}
		}
	}
}

// P1.7: Near, rounded down.
func TestNear(t *testing.T) {
	cases := []struct {
		a, b string
		want int
	}{
		{"", "", 1000}, {"a", "", 0}, {"", "a", 0}, {"a", "b", 0}, {"a", "a", 1000},
		{"a b a", "b a b", 666}, {"a", "a b", 666}, {"a b", "a c", 500}, {"a b c", "a d e f", 285}, {"a b c d", "a", 400},
	}
	for _, c := range cases {
		if n, e := stack.Near(row(c.a), row(c.b)); n != c.want || e != api.OK {
			t.Errorf("%q %q: %d %v, not %d", c.a, c.b, n, e, c.want)
		}
	}
	if n, e := stack.Near(many(200), many(199)); n != 997 || e != api.OK {
		t.Error(n, e)
	}
}

// allPairs is every list of pairs of equal frames, rising in both.
func allPairs(a, b []api.Frame, i, j int) [][][2]int {
	r := [][][2]int{nil}
	for ; i < len(a); i++ {
		for k := j; k < len(b); k++ {
			if a[i] != b[k] {
				continue
			}
			for _, rest := range allPairs(a, b, i+1, k+1) {
				r = append(r, append([][2]int{{i, k}}, rest...))
			}
		}
	}
	return r
}

// P1.7 and Z11, and what follows: against every list there is, and the other way round.
func TestAlignAgain(t *testing.T) {
	r := rand.New(rand.NewSource(4))
	random := func() []api.Frame {
		l := make([]api.Frame, r.Intn(6))
		for i := range l {
			l[i] = fn(string(rune('a' + r.Intn(3))))
		}
		return l
	}
	for range 3000 {
		a, b := random(), random()
		want := slices.MinFunc(allPairs(a, b, 0, 0), func(p, q [][2]int) int {
			if len(p) != len(q) {
				return len(q) - len(p)
			}
			return slices.CompareFunc(p, q, func(x, y [2]int) int { return slices.Compare(x[:], y[:]) })
		})
		p, e := stack.Align(a, b)
		if !slices.Equal(p, want) || e != api.OK {
			t.Fatal(a, b, p, e, want)
		}
		if back, e := stack.Align(b, a); len(back) != len(p) || e != api.OK {
			t.Fatal(a, b, p, back, e)
		}
	}
}
