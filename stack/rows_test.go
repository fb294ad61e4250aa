package stack_test

import (
	"math"
	"math/rand"
	"slices"
	"testing"

	"inquest/api"
	"inquest/stack"
)

// P1.5
func TestShared(t *testing.T) {
	cases := []struct {
		a, b string
		want int
	}{
		{"", "", 0}, {"a", "", 0}, {"", "a", 0}, {"a", "a", 1}, {"a", "b", 0},
		{"a b c", "x b c", 2}, {"a b c", "c", 1}, {"c", "a b c", 1}, {"b c", "a b c", 2}, {"a b c", "a b c", 3},
		{"a b c", "a b d", 0}, {"a x c", "a y c", 1}, {"a a a", "a a", 2},
	}
	for _, c := range cases {
		if n := stack.Shared(row(c.a), row(c.b)); n != c.want {
			t.Errorf("%q %q: %d, not %d", c.a, c.b, n, c.want)
		}
	}
	// All fields count.
	base := api.Frame{Module: "m", Func: "f", File: "x", Line: 1, Addr: 1, Own: true}
	others := []api.Frame{{Func: "f", File: "x", Line: 1, Addr: 1, Own: true}, {Module: "m", File: "x", Line: 1, Addr: 1, Own: true}, {Module: "m", Func: "f", Line: 1, Addr: 1, Own: true}, {Module: "m", Func: "f", File: "x", Addr: 1, Own: true}, {Module: "m", Func: "f", File: "x", Line: 1, Own: true}, {Module: "m", Func: "f", File: "x", Line: 1, Addr: 1}}
	for _, other := range others {
		if n := stack.Shared([]api.Frame{base}, []api.Frame{other}); n != 0 {
			t.Errorf("%v: %d", other, n)
		}
	}
	if n := stack.Shared(make([]api.Frame, 300), make([]api.Frame, 400)); n != 300 {
		t.Error("frames with errors, and more than MaxFrames:", n)
	}
}

// P1.5
func TestCut(t *testing.T) {
	cases := []struct {
		l    string
		most int
		want string
		gone int
	}{
		{"a b c d e", 1, "a", 4}, {"a b c d e", 2, "a e", 3}, {"a b c d e", 3, "a b e", 2}, {"a b c d e", 4, "a b d e", 1},
		{"a b c d e", 5, "a b c d e", 0}, {"a b c d e", 6, "a b c d e", 0}, {"a b c d e", 200, "a b c d e", 0}, {"", 1, "", 0}, {"a", 1, "a", 0},
	}
	for _, c := range cases {
		if l, n, e := stack.Cut(row(c.l), c.most); !slices.Equal(l, row(c.want)) || n != c.gone || e != api.OK {
			t.Errorf("%q %d: %v %d %v", c.l, c.most, l, n, e)
		}
	}
	if l, n, e := stack.Cut(many(200), 199); len(l) != 199 || n != 1 || e != api.OK {
		t.Error(len(l), n, e)
	}
	for _, most := range []int{0, -1, 201, math.MinInt, math.MaxInt} {
		for _, l := range [][]api.Frame{nil, row("a b"), many(200)} {
			if l, n, e := stack.Cut(l, most); len(l) > 0 || n != 0 || e != api.ErrRange {
				t.Error(most, l, n, e)
			}
		}
	}
}

// P1.6
func TestFold(t *testing.T) {
	cases := []struct {
		l    string
		want []stack.Run
	}{
		{"", nil},
		{"a", []stack.Run{{0, 1, 1}}},
		{"a b c", []stack.Run{{0, 3, 1}}},
		{"a a", []stack.Run{{0, 1, 2}}},
		{"a a a a", []stack.Run{{0, 1, 4}}},
		{"a b a b a", []stack.Run{{0, 2, 2}, {4, 1, 1}}},
		{"x a a y z", []stack.Run{{0, 1, 1}, {1, 1, 2}, {3, 2, 1}}},
		{"x y a a a b b z", []stack.Run{{0, 2, 1}, {2, 1, 3}, {5, 1, 2}, {7, 1, 1}}},
		// a a would be a run too, but a a b twice covers more.
		{"a a b a a b", []stack.Run{{0, 3, 2}}},
		// a a b a a covers as many frames in no other way; the run of 1 comes first.
		{"a a b a a", []stack.Run{{0, 1, 2}, {2, 1, 1}, {3, 1, 2}}},
		// The first position decides, although the next one would have the longer run.
		{"a a b a b a b", []stack.Run{{0, 1, 2}, {2, 2, 2}, {6, 1, 1}}},
		{"a b a b c a b a b c", []stack.Run{{0, 5, 2}}},
		{"a b c a b c a b c x", []stack.Run{{0, 3, 3}, {9, 1, 1}}},
		// Three times two covers more than two times two, of several with as many the least Long.
		{"a b a b a b a b", []stack.Run{{0, 2, 4}}},
		{"a a a a a", []stack.Run{{0, 1, 5}}},
	}
	for _, c := range cases {
		if r, e := stack.Fold(row(c.l)); !slices.Equal(r, c.want) || e != api.OK {
			t.Errorf("%q: %v %v, not %v", c.l, r, e, c.want)
		}
	}
	// All fields of frames count.
	l := row("a a")
	l[1].Own = true
	if r, e := stack.Fold(l); !slices.Equal(r, []stack.Run{{0, 2, 1}}) || e != api.OK {
		t.Error(r, e)
	}
	if r, e := stack.Fold(many(200)); !slices.Equal(r, []stack.Run{{0, 1, 200}}) || e != api.OK {
		t.Error(r, e)
	}
	hundred := slices.Repeat(append(many(99), fn("g")), 2)
	if r, e := stack.Fold(hundred); !slices.Equal(r, []stack.Run{{0, 100, 2}}) || e != api.OK {
		t.Error(r, e)
	}
}

// once is the frames of each run once.
func once(l []api.Frame, runs []stack.Run) []api.Frame {
	var r []api.Frame
	for _, run := range runs {
		r = append(r, l[run.From:run.From+run.Long]...)
	}
	return r
}

// foldAgain is Fold by the words of the chapter alone.
func foldAgain(l []api.Frame) []stack.Run {
	var single []stack.Run
	for at := 0; at < len(l); {
		left := len(l) - at
		best := stack.Run{From: at, Long: 1, Times: 1}
		for long := left / 2; long >= 1; long-- {
			times := 1
			for i := at + long; i < len(l) && l[i] == l[i-long]; i++ {
				if (i-at+1)%long == 0 {
					times++
				}
			}
			if times >= 2 && long*times >= best.Long*best.Times {
				best = stack.Run{From: at, Long: long, Times: times}
			}
		}
		single = append(single, best)
		at += best.Long * best.Times
	}
	var r []stack.Run
	for _, run := range single {
		if n := len(r); n > 0 && run.Times == 1 && r[n-1].Times == 1 {
			r[n-1].Long += run.Long
		} else {
			r = append(r, run)
		}
	}
	return r
}

// P1.6, and what follows: Unfold leads back from Fold.
func TestUnfoldOfFold(t *testing.T) {
	r := rand.New(rand.NewSource(3))
	for range 20_000 {
		l := make([]api.Frame, r.Intn(20))
		for i := range l {
			l[i] = fn(string(rune('a' + r.Intn(3))))
		}
		runs, e := stack.Fold(l)
		if e != api.OK || !slices.Equal(runs, foldAgain(l)) {
			t.Fatal(l, runs, e)
		}
		if back, e := stack.Unfold(once(l, runs), runs); e != api.OK || !slices.Equal(back, l) {
			t.Fatal(l, runs, back, e)
		}
	}
}

// P1.6
func TestUnfold(t *testing.T) {
	cases := []struct {
		l    string
		runs []stack.Run
		want string
	}{
		{"", nil, ""},
		{"a", []stack.Run{{0, 1, 1}}, "a"},
		{"a", []stack.Run{{0, 1, 3}}, "a a a"},
		{"a b c d", []stack.Run{{0, 1, 1}, {1, 2, 2}, {5, 1, 3}}, "a b c b c d d d"},
		{"a b", []stack.Run{{0, 1, 1}, {1, 1, 1}}, "a b"},
	}
	for _, c := range cases {
		if l, e := stack.Unfold(row(c.l), c.runs); !slices.Equal(l, row(c.want)) || e != api.OK {
			t.Errorf("%q %v: %v %v", c.l, c.runs, l, e)
		}
	}
	if l, e := stack.Unfold(row("a b"), []stack.Run{{0, 2, 100}}); len(l) != 200 || e != api.OK {
		t.Error(len(l), e)
	}
	if l, e := stack.Unfold(many(200), []stack.Run{{0, 200, 1}}); len(l) != 200 || e != api.OK {
		t.Error(len(l), e)
	}
}

// P1.6: the errors of Unfold, in their order.
func TestUnfoldErrors(t *testing.T) {
	cases := []struct {
		l    string
		runs []stack.Run
		want api.Errno
	}{
		{"a", []stack.Run{{0, 0, 1}}, api.ErrRange},
		{"a", []stack.Run{{0, -1, 1}}, api.ErrRange},
		{"a", []stack.Run{{0, 201, 1}}, api.ErrRange},
		{"a", []stack.Run{{0, 1, 0}}, api.ErrRange},
		{"a", []stack.Run{{0, 1, -1}}, api.ErrRange},
		{"a", []stack.Run{{0, 1, 201}}, api.ErrRange},
		{"a", []stack.Run{{0, math.MaxInt, math.MaxInt}}, api.ErrRange},
		{"a", []stack.Run{{0, math.MinInt, math.MinInt}}, api.ErrRange},
		{"a", []stack.Run{{0, 2, 1}, {0, 0, 0}}, api.ErrRange},
		{"a", nil, api.ErrForm},
		{"", []stack.Run{{0, 1, 1}}, api.ErrForm},
		{"a", []stack.Run{{0, 2, 1}}, api.ErrForm},
		{"a b c", []stack.Run{{0, 1, 1}, {1, 1, 1}}, api.ErrForm},
		{"a", []stack.Run{{1, 2, 1}}, api.ErrForm},
		{"a", []stack.Run{{0, 200, 200}}, api.ErrForm},
		{"a", []stack.Run{{1, 1, 1}}, api.ErrRange},
		{"a", []stack.Run{{-1, 1, 1}}, api.ErrRange},
		{"a b", []stack.Run{{0, 1, 2}, {1, 1, 1}}, api.ErrRange},
		{"a b", []stack.Run{{0, 1, 2}, {math.MaxInt, 1, 1}}, api.ErrRange},
		{"a b", []stack.Run{{0, 1, 200}, {0, 1, 200}}, api.ErrRange},
		{"a b", []stack.Run{{0, 1, 200}, {200, 1, 1}}, api.ErrLarge},
		{"a b", []stack.Run{{0, 2, 101}}, api.ErrLarge},
		{"a b", []stack.Run{{0, 1, 200}, {200, 1, 200}}, api.ErrLarge},
	}
	for _, c := range cases {
		if l, e := stack.Unfold(row(c.l), c.runs); len(l) > 0 || e != c.want {
			t.Errorf("%q %v: %v %v, not %v", c.l, c.runs, l, e, c.want)
		}
	}
}
