package event

import "strings"

// finder is what a rule looks for: rows of bytes, or a literal.
type finder struct {
	first   int                         // the state before a string
	step    func(state int, b byte) int // the state behind a byte of rows
	goal    int                         // the state in which a row ends that is looked for,
	least   int                         // if it has so many bytes
	literal string                      // the state is how many bytes of it are held
}

// The states of rows, behind idle.
const (
	inRow    = 1 + iota // of Mails: before an @
	atAt                // behind it
	behindAt            // behind more bytes
)

func finderOf(r Rule) finder {
	switch r.Find {
	case Digits:
		return finder{step: stepIn(isDigit), goal: inRow, least: r.Least}
	case Hexes:
		return finder{step: stepIn(isHex), goal: inRow, least: r.Least}
	case Mails:
		return finder{step: stepMail, goal: behindAt}
	case Literal:
		return finder{goal: written, literal: r.Text}
	}
	return finder{first: inRow, step: stepIn(func(byte) bool { return true }), goal: inRow}
}

// stepIn is for rows of bytes of a kind.
func stepIn(is func(b byte) bool) func(state int, b byte) int {
	return func(_ int, b byte) int {
		if is(b) {
			return inRow
		}
		return idle
	}
}

func stepMail(state int, b byte) int {
	switch {
	case b == '@' && state == inRow:
		return atAt
	case !inMail(b):
		return idle
	case state == idle:
		return inRow
	case state == atAt:
		return behindAt
	}
	return state
}

func inMail(b byte) bool { return inName(b) || b >= 'A' && b <= 'Z' }

// begun returns how many bytes of the literal, but not all, are at the end of a text: as many as possible.
func (f finder) begun(text string) int {
	n := min(len(f.literal)-1, len(text))
	for !strings.HasSuffix(text, f.literal[:n]) {
		n--
	}
	return n
}
