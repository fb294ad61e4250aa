package group

import (
	"maps"
	"slices"

	"inquest/api"
)

const (
	printLong  = 16 // digits of a print
	mostWeight = 1_000_000
)

// Kinds of steps.
const (
	mergeStep = 1
	splitStep = 2
)

// Book has the groups of prints, and what came to them. Without anything in it, it is empty.
type Book struct {
	prints map[string]*tally
	last   int // the greatest Id that was given
	steps  []Step
}

// tally is what came to a print, and the Id of its group.
type tally struct {
	group          int
	events, weight int
	first, last    int
}

// NewBook returns an empty book.
func NewBook() *Book { return &Book{} }

// Take takes an event with a print; the results are the Id of its group, and whether that is new.
func (b *Book) Take(print string, at, weight int) (int, bool, api.Errno) {
	switch {
	case len(print) != printLong, row(print, isHex) != printLong:
		return 0, false, api.ErrForm
	case at < 0, at > api.MaxMoment, weight < 1, weight > mostWeight:
		return 0, false, api.ErrRange
	}
	t, known := b.prints[print]
	if !known {
		if len(b.prints) >= MaxPrints {
			return 0, false, api.ErrFull
		}
		t = b.add(print, at)
	}
	t.events++
	t.weight += weight
	t.first, t.last = min(t.first, at), max(t.last, at)
	return t.group, !known, api.OK
}

// add adds a print, which has a group of its own.
func (b *Book) add(print string, at int) *tally {
	if b.prints == nil {
		b.prints = map[string]*tally{}
	}
	b.last++
	t := &tally{group: b.last, first: at, last: at}
	b.prints[print] = t
	return t
}

// Of returns the Id of the group that has a print.
func (b *Book) Of(print string) (int, api.Errno) {
	t, known := b.prints[print]
	if !known {
		return 0, api.ErrNone
	}
	return t.group, api.OK
}

// Groups returns all groups, by Id.
func (b *Book) Groups() []Group {
	groups := map[int]Group{}
	for _, print := range slices.Sorted(maps.Keys(b.prints)) {
		t := b.prints[print]
		g, known := groups[t.group]
		if !known {
			g = Group{Id: t.group, First: t.first, Last: t.last}
		}
		g.Prints = append(g.Prints, print)
		g.Events += t.events
		g.Weight += t.weight
		g.First, g.Last = min(g.First, t.first), max(g.Last, t.last)
		groups[t.group] = g
	}
	var l []Group
	for _, id := range slices.Sorted(maps.Keys(groups)) {
		l = append(l, groups[id])
	}
	return l
}

// Merge makes the prints of a group those of the group a.
func (b *Book) Merge(a, with int) api.Errno {
	moved := b.printsOf(with)
	switch {
	case len(b.printsOf(a)) == 0, len(moved) == 0:
		return api.ErrNone
	case a == with:
		return api.ErrForm
	case len(b.steps) >= MaxSteps:
		return api.ErrFull
	}
	b.move(moved, a)
	b.steps = append(b.steps, Step{Kind: mergeStep, A: a, B: with, Prints: moved})
	return api.OK
}

// Split makes prints of the group a those of a new one, and returns its Id.
func (b *Book) Split(a int, prints []string) (int, api.Errno) {
	if e := b.checkSplit(a, prints); e != api.OK {
		return 0, e
	}
	b.last++
	moved := slices.Clone(prints)
	b.move(moved, b.last)
	b.steps = append(b.steps, Step{Kind: splitStep, A: a, B: b.last, Prints: moved})
	return b.last, api.OK
}

func (b *Book) checkSplit(a int, prints []string) api.Errno {
	own := b.printsOf(a)
	if len(own) == 0 || len(prints) == 0 {
		return api.ErrNone
	}
	for i, print := range prints {
		if _, is := slices.BinarySearch(own, print); !is {
			return api.ErrNone
		}
		if i > 0 && print <= prints[i-1] {
			return api.ErrOrder
		}
	}
	switch {
	case len(prints) == len(own):
		return api.ErrForm
	case len(b.steps) >= MaxSteps:
		return api.ErrFull
	}
	return api.OK
}

// Undo takes back the last step that counts; false: there is none.
func (b *Book) Undo() bool {
	if len(b.steps) == 0 {
		return false
	}
	last := len(b.steps) - 1
	step := b.steps[last]
	b.steps = b.steps[:last]
	if step.Kind == mergeStep {
		b.move(step.Prints, step.B)
	} else {
		b.move(step.Prints, step.A)
	}
	return true
}

// History returns the steps that count.
func (b *Book) History() []Step {
	l := slices.Clone(b.steps)
	for i := range l {
		l[i].Prints = slices.Clone(l[i].Prints)
	}
	return l
}

// printsOf returns the prints of a group, rising.
func (b *Book) printsOf(id int) []string {
	var l []string
	for print, t := range b.prints {
		if t.group == id {
			l = append(l, print)
		}
	}
	slices.Sort(l)
	return l
}

func (b *Book) move(prints []string, to int) {
	for _, print := range prints {
		b.prints[print].group = to
	}
}
