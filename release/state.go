package release

import (
	"slices"
	"strconv"
	"strings"

	"inquest/api"
)

const (
	none     = -1 // of Till, More and People
	decimals = 10 // the most digits of a number of a state
)

// Marks before what is told of a state.
const (
	atMark     = "at"
	inMark     = "in"
	afterMark  = "after"
	tillMark   = "till"
	moreMark   = "more"
	peopleMark = "people"
	againMark  = "again"
)

// kindWords are the words of the kinds of states, from Open on.
func kindWords() []string { return []string{"open", "resolved", "ignored"} }

// plain returns a state of which nothing is told but this.
func plain(kind, at, again int) State {
	return State{Kind: kind, At: at, Till: none, More: none, People: none, Again: again}
}

// CheckState returns the first error of a state.
func CheckState(s State) api.Errno {
	switch {
	case s.Kind < Open, s.Kind > Ignored:
		return api.ErrKind
	case !isMoment(s.At), s.Till != none && !isMoment(s.Till), s.More != none && !isCount(s.More), s.People != none && !isCount(s.People), !isCount(s.Again):
		return api.ErrRange
	case s.In != "" && !isRelease(s.In):
		return api.ErrSyntax
	case s.Next && s.In == "", withoutOwn(s) != plain(s.Kind, s.At, s.Again):
		return api.ErrForm
	}
	return api.OK
}

func isCount(n int) bool { return n >= 0 && n <= MaxUsers }

// withoutOwn returns a state without what is told of its Kind alone.
func withoutOwn(s State) State {
	switch s.Kind {
	case Resolved:
		s.In, s.Next = "", false
	case Ignored:
		s.Till, s.More, s.People = none, none, none
	}
	return s
}

// StateText writes a state.
func StateText(s State) (string, api.Errno) {
	if e := CheckState(s); e != api.OK {
		return "", e
	}
	return stateText(s), api.OK
}

func stateText(s State) string {
	text := kindWords()[s.Kind-Open] + " " + atMark + " " + strconv.Itoa(s.At)
	switch {
	case s.Next:
		text += " " + afterMark + " " + s.In
	case s.In != "":
		text += " " + inMark + " " + s.In
	}
	return text + numberText(tillMark, s.Till, none) + numberText(moreMark, s.More, none) + numberText(peopleMark, s.People, none) + numberText(againMark, s.Again, 0)
}

// numberText writes nothing for the number that stands for none.
func numberText(mark string, n, no int) string {
	if n == no {
		return ""
	}
	return " " + mark + " " + strconv.Itoa(n)
}

// ReadState reads what StateText writes.
func ReadState(s string) (State, api.Errno) {
	words := strings.Split(s, " ")
	kind := slices.Index(kindWords(), words[0])
	if kind < 0 {
		return State{}, api.ErrSyntax
	}
	l := left(words[1:])
	x := plain(Open+kind, l.number(atMark, 0), 0)
	x.In = l.release(inMark)
	if x.In == "" {
		x.In = l.release(afterMark)
		x.Next = x.In != ""
	}
	x.Till = l.number(tillMark, none)
	x.More = l.number(moreMark, none)
	x.People = l.number(peopleMark, none)
	x.Again = l.number(againMark, 0)
	// What was left out, or is not where it belongs, is missing in the text of what was read.
	if stateText(x) != s {
		return State{}, api.ErrSyntax
	}
	if e := CheckState(x); e != api.OK {
		return State{}, e
	}
	return x, api.OK
}

// left are the words that are left to read.
type left []string

// after takes a mark and the word behind it, if the mark is next.
func (l *left) after(mark string) string {
	if len(*l) < 2 || (*l)[0] != mark {
		return ""
	}
	word := (*l)[1]
	*l = (*l)[2:]
	return word
}

// release returns the release behind a mark; without one it is empty.
func (l *left) release(mark string) string {
	word := l.after(mark)
	if !isRelease(word) {
		return ""
	}
	return word
}

// number returns the number behind a mark; without one it is that which stands for none.
func (l *left) number(mark string, no int) int {
	n, is := readNumber(l.after(mark), decimals)
	if !is {
		return no
	}
	return n
}
