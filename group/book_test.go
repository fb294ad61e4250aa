package group_test

import (
	"fmt"
	"math"
	"math/rand"
	"slices"
	"strconv"
	"strings"
	"testing"

	"inquest/api"
	"inquest/group"
)

// print is the print with a number; greater numbers are greater prints.
func print(n int) string {
	s := strconv.FormatInt(int64(n), 16)
	return strings.Repeat("0", 16-len(s)) + s
}

func prints(l ...int) (r []string) {
	for _, n := range l {
		r = append(r, print(n))
	}
	return r
}

// taken is a book to which events with these prints came, at moments from 10 on and with weights from 1 on.
func taken(t *testing.T, l ...int) *group.Book {
	t.Helper()
	b := group.NewBook()
	for i, n := range l {
		if _, _, e := b.Take(print(n), 10+i, 1+i); e != api.OK {
			t.Fatal(i, n, e)
		}
	}
	return b
}

// book is all that a book tells.
func book(b *group.Book) string { return fmt.Sprint(b.Groups(), b.History()) }

// expect asks for groups, each as its Id and the numbers of its prints.
func expect(t *testing.T, b *group.Book, want string) {
	t.Helper()
	var got []string
	for _, g := range b.Groups() {
		s := strconv.Itoa(g.Id) + ":"
		for _, p := range g.Prints {
			n, _ := strconv.ParseInt(p, 16, 64)
			s += " " + strconv.Itoa(int(n))
			if id, e := b.Of(p); id != g.Id || e != api.OK {
				t.Error(p, id, e)
			}
		}
		got = append(got, s)
	}
	if s := strings.Join(got, "; "); s != want {
		t.Errorf("%s, not %s", s, want)
	}
}

// P5.6
func TestTake(t *testing.T) {
	b := group.NewBook()
	if book(b) != "[] []" || b.Undo() {
		t.Error(book(b))
	}
	for i, c := range []struct {
		print, at, weight, id int
		fresh                 bool
	}{
		{9, 50, 1_000_000, 1, true}, {3, 0, 1, 2, true}, {9, 60, 2, 1, false}, {9, 40, 1, 1, false}, {5, api.MaxMoment, 7, 3, true}, {3, 0, 1, 2, false}, {9, 55, 1, 1, false},
	} {
		if id, fresh, e := b.Take(print(c.print), c.at, c.weight); id != c.id || fresh != c.fresh || e != api.OK {
			t.Error(i, id, fresh, e)
		}
	}
	want := []group.Group{
		{Id: 1, Prints: prints(9), Events: 4, Weight: 1_000_004, First: 40, Last: 60},
		{Id: 2, Prints: prints(3), Events: 2, Weight: 2, First: 0, Last: 0},
		{Id: 3, Prints: prints(5), Events: 1, Weight: 7, First: api.MaxMoment, Last: api.MaxMoment},
	}
	if got := b.Groups(); fmt.Sprint(got) != fmt.Sprint(want) {
		t.Error(got)
	}
	expect(t, b, "1: 9; 2: 3; 3: 5")
	for _, p := range []string{print(4), "", "x", print(9)[1:], print(9) + "0"} {
		if id, e := b.Of(p); id != 0 || e != api.ErrNone {
			t.Errorf("%q: %d %v", p, id, e)
		}
	}
}

// P5.6: errors of Take, which change nothing.
func TestTakeErrors(t *testing.T) {
	b := taken(t, 1)
	before := book(b)
	for _, c := range []struct {
		print      string
		at, weight int
		want       api.Errno
	}{
		{"", 0, 1, api.ErrForm}, {"x", -1, 0, api.ErrForm}, {print(1)[1:], 0, 1, api.ErrForm}, {print(1) + "0", 0, 1, api.ErrForm}, {"000000000000000A", 0, 1, api.ErrForm}, {"000000000000000g", 0, 1, api.ErrForm}, {"00000000 0000000", 0, 1, api.ErrForm}, {"\xff00000000000000", 0, 1, api.ErrForm}, {word(1_000_000), 0, 1, api.ErrForm},
		{print(1), -1, 1, api.ErrRange}, {print(1), api.MaxMoment + 1, 1, api.ErrRange}, {print(1), 0, 0, api.ErrRange}, {print(1), 0, -1, api.ErrRange}, {print(1), 0, 1_000_001, api.ErrRange}, {print(2), math.MinInt, 1, api.ErrRange}, {print(2), 0, math.MaxInt, api.ErrRange},
	} {
		if id, fresh, e := b.Take(c.print, c.at, c.weight); id != 0 || fresh || e != c.want {
			t.Errorf("%.20q: %d %v %v, not %v", c.print, id, fresh, e, c.want)
		}
	}
	if after := book(b); after != before {
		t.Error(after)
	}
	if id, fresh, e := b.Take("0123456789abcdef", 0, 1); id != 2 || !fresh || e != api.OK {
		t.Error(id, fresh, e)
	}
}

// P5.6: a book that is full.
func TestTakeFull(t *testing.T) {
	b := group.NewBook()
	for i := range group.MaxPrints {
		if id, fresh, e := b.Take(print(i), 0, 1); id != i+1 || !fresh || e != api.OK {
			t.Fatal(i, id, fresh, e)
		}
	}
	before := book(b)
	if id, fresh, e := b.Take(print(5000), 0, 1); id != 0 || fresh || e != api.ErrFull {
		t.Error(id, fresh, e)
	}
	if _, _, e := b.Take(print(5000), -1, 1); e != api.ErrRange {
		t.Error(e)
	}
	if after := book(b); after != before {
		t.Error("an error has changed something")
	}
	if id, fresh, e := b.Take(print(7), 0, 1); id != 8 || fresh || e != api.OK {
		t.Error(id, fresh, e)
	}
	if e := b.Merge(1, 2); e != api.OK {
		t.Error(e)
	}
	if _, _, e := b.Take(print(5000), 0, 1); e != api.ErrFull {
		t.Error("prints stay, merged or not:", e)
	}
}

// P5.7
func TestMerge(t *testing.T) {
	b := taken(t, 9, 3, 5, 3)
	if e := b.Merge(2, 1); e != api.OK {
		t.Fatal(e)
	}
	want := []group.Group{{Id: 2, Prints: prints(3, 9), Events: 3, Weight: 1 + 2 + 4, First: 10, Last: 13}, {Id: 3, Prints: prints(5), Events: 1, Weight: 3, First: 12, Last: 12}}
	if got := b.Groups(); fmt.Sprint(got) != fmt.Sprint(want) {
		t.Error(got)
	}
	before := book(b)
	for _, c := range []struct {
		a, with int
		want    api.Errno
	}{{1, 2, api.ErrNone}, {2, 1, api.ErrNone}, {1, 1, api.ErrNone}, {4, 2, api.ErrNone}, {2, 4, api.ErrNone}, {0, 0, api.ErrNone}, {math.MinInt, 2, api.ErrNone}, {2, -1, api.ErrNone}, {2, 2, api.ErrForm}, {3, 3, api.ErrForm}} {
		if e := b.Merge(c.a, c.with); e != c.want {
			t.Errorf("%d %d: %v, not %v", c.a, c.with, e, c.want)
		}
	}
	if after := book(b); after != before {
		t.Error(after)
	}
	if id, fresh, e := b.Take(print(9), 5, 1); id != 2 || fresh || e != api.OK {
		t.Error(id, fresh, e)
	}
	if e := b.Merge(3, 2); e != api.OK {
		t.Error(e)
	}
	expect(t, b, "3: 3 5 9")
	steps := []group.Step{{Kind: 1, A: 2, B: 1, Prints: prints(9)}, {Kind: 1, A: 3, B: 2, Prints: prints(3, 9)}}
	if got := b.History(); fmt.Sprint(got) != fmt.Sprint(steps) {
		t.Error(got)
	}
	if id, fresh, e := b.Take(print(1), 0, 1); id != 4 || !fresh || e != api.OK {
		t.Error("no Id comes again:", id, fresh, e)
	}
}

// P5.7
func TestSplit(t *testing.T) {
	b := taken(t, 1, 2, 3, 4, 5)
	for id := 2; id < 5; id++ {
		if e := b.Merge(1, id); e != api.OK {
			t.Fatal(e)
		}
	}
	before := book(b)
	for i, c := range []struct {
		a      int
		prints []string
		want   api.Errno
	}{
		{2, prints(1), api.ErrNone}, {0, prints(1), api.ErrNone}, {6, nil, api.ErrNone}, {1, nil, api.ErrNone}, {1, []string{}, api.ErrNone},
		{1, prints(5), api.ErrNone}, {1, prints(6), api.ErrNone}, {1, []string{"x"}, api.ErrNone}, {1, []string{""}, api.ErrNone}, {1, prints(1, 5), api.ErrNone}, {5, prints(1), api.ErrNone},
		{1, prints(2, 1), api.ErrOrder}, {1, prints(1, 1), api.ErrOrder}, {1, prints(1, 3, 2, 5), api.ErrOrder}, {1, prints(3, 5, 1), api.ErrNone}, {1, prints(3, 0), api.ErrNone},
		{1, prints(1, 2, 3, 4), api.ErrForm}, {5, prints(5), api.ErrForm}, {1, prints(1, 2, 3, 4, 4), api.ErrOrder}, {1, prints(1, 2, 3, 4, 5), api.ErrNone},
	} {
		if id, e := b.Split(c.a, c.prints); id != 0 || e != c.want {
			t.Errorf("%d: %d %v, not %v", i, id, e, c.want)
		}
	}
	if after := book(b); after != before {
		t.Error(after)
	}
	if id, e := b.Split(1, prints(2, 4)); id != 6 || e != api.OK {
		t.Error(id, e)
	}
	expect(t, b, "1: 1 3; 5: 5; 6: 2 4")
	if id, e := b.Split(6, prints(2)); id != 7 || e != api.OK {
		t.Error(id, e)
	}
	want := []group.Group{{Id: 1, Prints: prints(1, 3), Events: 2, Weight: 4, First: 10, Last: 12}, {Id: 5, Prints: prints(5), Events: 1, Weight: 5, First: 14, Last: 14}, {Id: 6, Prints: prints(4), Events: 1, Weight: 4, First: 13, Last: 13}, {Id: 7, Prints: prints(2), Events: 1, Weight: 2, First: 11, Last: 11}}
	if got := b.Groups(); fmt.Sprint(got) != fmt.Sprint(want) {
		t.Error(got)
	}
	steps := []group.Step{{Kind: 2, A: 1, B: 6, Prints: prints(2, 4)}, {Kind: 2, A: 6, B: 7, Prints: prints(2)}}
	if got := b.History()[3:]; fmt.Sprint(got) != fmt.Sprint(steps) {
		t.Error(got)
	}
}

// P5.7
func TestUndo(t *testing.T) {
	b := taken(t, 1, 2, 3)
	var states []string
	step := func(e api.Errno) {
		t.Helper()
		if e != api.OK {
			t.Fatal(e)
		}
		states = append(states, book(b))
	}
	split := func(a int, l ...int) api.Errno {
		_, e := b.Split(a, prints(l...))
		return e
	}
	step(api.OK)
	step(b.Merge(1, 2))
	step(b.Merge(3, 1))
	step(split(3, 1, 3))
	step(b.Merge(4, 3))
	step(split(4, 3))
	for n := len(states) - 2; n >= 0; n-- {
		if !b.Undo() || book(b) != states[n] {
			t.Errorf("%d: %s, not %s", n, book(b), states[n])
		}
	}
	if b.Undo() || book(b) != states[0] {
		t.Error(book(b))
	}
	// The Ids of groups that are no more do not come again.
	if id, fresh, e := b.Take(print(4), 1, 1); id != 6 || !fresh || e != api.OK {
		t.Error(id, fresh, e)
	}
	expect(t, b, "1: 1; 2: 2; 3: 3; 6: 4")
}

// P5.7: what comes meanwhile goes with its prints.
func TestUndoMeanwhile(t *testing.T) {
	b := taken(t, 1, 2)
	if e := b.Merge(1, 2); e != api.OK {
		t.Fatal(e)
	}
	b.Take(print(2), 99, 50)
	b.Take(print(1), 3, 7)
	b.Take(print(5), 4, 1)
	if id, e := b.Split(1, prints(1)); id != 4 || e != api.OK {
		t.Fatal(id, e)
	}
	b.Take(print(1), 200, 1000)
	if !b.Undo() {
		t.Fatal("Undo of Split")
	}
	want := []group.Group{{Id: 1, Prints: prints(1, 2), Events: 5, Weight: 1 + 2 + 50 + 7 + 1000, First: 3, Last: 200}, {Id: 3, Prints: prints(5), Events: 1, Weight: 1, First: 4, Last: 4}}
	if got := b.Groups(); fmt.Sprint(got) != fmt.Sprint(want) {
		t.Error(got)
	}
	if !b.Undo() {
		t.Fatal("Undo of Merge")
	}
	want = []group.Group{{Id: 1, Prints: prints(1), Events: 3, Weight: 1 + 7 + 1000, First: 3, Last: 200}, {Id: 2, Prints: prints(2), Events: 2, Weight: 52, First: 11, Last: 99}, want[1]}
	if got := b.Groups(); fmt.Sprint(got) != fmt.Sprint(want) {
		t.Error(got)
	}
}

// P5.7: the most steps.
func TestStepsFull(t *testing.T) {
	b := taken(t, 1, 2, 3)
	if e := b.Merge(1, 3); e != api.OK {
		t.Fatal(e)
	}
	for i := 1; i < group.MaxSteps; i++ {
		var e api.Errno
		if i%2 == 1 {
			_, e = b.Split(1, prints(1))
		} else {
			e = b.Merge(1, 3+i/2)
		}
		if e != api.OK {
			t.Fatal(i, e)
		}
	}
	before := book(b)
	if len(b.History()) != group.MaxSteps {
		t.Fatal(len(b.History()))
	}
	for _, e := range []api.Errno{b.Merge(1, 2), b.Merge(2, 1)} {
		if e != api.ErrFull {
			t.Error(e)
		}
	}
	if b.Merge(1, 1) != api.ErrForm || b.Merge(1, 1000) != api.ErrNone {
		t.Error("other errors come first")
	}
	if id, e := b.Split(1, prints(3)); id != 0 || e != api.ErrForm {
		t.Error(id, e)
	}
	if after := book(b); after != before {
		t.Error("an error has changed something")
	}
	// A step that was taken back counts no more.
	if !b.Undo() || b.Merge(1, 2) != api.OK || len(b.History()) != group.MaxSteps {
		t.Error(b.Groups())
	}
	if id, e := b.Split(1, prints(2)); id != 0 || e != api.ErrFull {
		t.Error(id, e)
	}
}

// plainBook is a plain reading of P5.6 and P5.7: it keeps all that was taken, and which print is in which group.
type plainBook struct {
	of    map[string]int
	last  int
	took  []taking
	steps []group.Step
}

type taking struct {
	print      string
	at, weight int
}

func (b *plainBook) groups() []group.Group {
	var l []group.Group
	for id := 1; id <= b.last; id++ {
		g := group.Group{Id: id}
		for print, of := range b.of {
			if of == id {
				g.Prints = append(g.Prints, print)
			}
		}
		slices.Sort(g.Prints)
		for _, t := range b.took {
			if b.of[t.print] != id {
				continue
			}
			if g.Events == 0 {
				g.First, g.Last = t.at, t.at
			}
			g.Events, g.Weight, g.First, g.Last = g.Events+1, g.Weight+t.weight, min(g.First, t.at), max(g.Last, t.at)
		}
		if len(g.Prints) > 0 {
			l = append(l, g)
		}
	}
	return l
}

func (b *plainBook) move(l []string, id int) {
	for _, print := range l {
		b.of[print] = id
	}
}

// P5.6, P5.7 and what follows, with a plain reading.
func TestBookPlainly(t *testing.T) {
	r := rand.New(rand.NewSource(8))
	done := map[int]int{}
	for range 300 {
		b, plain := group.NewBook(), &plainBook{of: map[string]int{}}
		for range 60 {
			p, all := print(r.Intn(12)), plain.groups()
			kind := r.Intn(6)
			switch {
			case kind < 3 || len(all) < 3:
				at, weight := r.Intn(100), 1+r.Intn(9)
				want, known := plain.of[p]
				if !known {
					plain.last++
					want = plain.last
					plain.of[p] = want
				}
				plain.took = append(plain.took, taking{p, at, weight})
				if id, fresh, e := b.Take(p, at, weight); id != want || fresh == known || e != api.OK {
					t.Fatal(id, fresh, e)
				}
			case kind == 3:
				a, with := all[r.Intn(len(all))], all[r.Intn(len(all))]
				want := api.ErrForm
				if a.Id != with.Id {
					want = api.OK
					plain.move(with.Prints, a.Id)
					plain.steps = append(plain.steps, group.Step{Kind: 1, A: a.Id, B: with.Id, Prints: with.Prints})
				}
				if e := b.Merge(a.Id, with.Id); e != want {
					t.Fatal(e, want)
				}
			case kind == 4:
				a := all[r.Intn(len(all))]
				var moved []string
				for _, print := range a.Prints {
					if r.Intn(2) == 0 {
						moved = append(moved, print)
					}
				}
				want, wantId := api.ErrNone, 0
				switch {
				case len(moved) == len(a.Prints):
					want = api.ErrForm
				case len(moved) > 0:
					want = api.OK
					plain.last++
					wantId = plain.last
					plain.move(moved, wantId)
					plain.steps = append(plain.steps, group.Step{Kind: 2, A: a.Id, B: wantId, Prints: moved})
				}
				if id, e := b.Split(a.Id, moved); id != wantId || e != want {
					t.Fatal(id, e, want)
				}
			default:
				n := len(plain.steps)
				if b.Undo() != (n > 0) {
					t.Fatal("Undo")
				}
				if n > 0 {
					s := plain.steps[n-1]
					plain.steps = plain.steps[:n-1]
					plain.move(s.Prints, []int{s.B, s.A}[s.Kind-1])
				}
			}
			done[kind]++
			if got, want := book(b), fmt.Sprint(plain.groups(), plain.steps); got != want {
				t.Fatalf("%s, not %s", got, want)
			}
		}
	}
	if len(done) != 6 {
		t.Error(done)
	}
}
