package event

import (
	"slices"
	"strconv"
	"strings"
)

// reader goes through a string. Once something is not as expected there is nothing more to read, so that it is enough to ask at the end whether all was right.
type reader struct {
	rest   string // what has not been read
	line   int    // the number of the line that was begun last
	failed bool
}

func (r *reader) fail() { r.rest, r.failed = "", true }

// begins tells whether the next line begins with a mark.
func (r *reader) begins(mark string) bool { return strings.HasPrefix(r.rest, mark) }

// start begins a line, and goes on behind its mark.
func (r *reader) start(mark string) {
	if !r.failed {
		r.line++
	}
	r.expect(mark)
}

// expect goes on behind a mark.
func (r *reader) expect(mark string) {
	if r.take(len(mark)) != mark {
		r.fail()
	}
}

// take returns so many bytes.
func (r *reader) take(long int) string {
	if long > len(r.rest) {
		r.fail()
		return ""
	}
	s := r.rest[:long]
	r.rest = r.rest[long:]
	return s
}

// word returns what is before the next space of the line: one byte or more.
func (r *reader) word() string {
	i := strings.IndexAny(r.rest, " \n")
	if i < 1 || r.rest[i] != ' ' {
		r.fail()
		return ""
	}
	s := r.take(i)
	r.expect(" ")
	return s
}

// end returns the rest of the line, which may be empty.
func (r *reader) end() string {
	i := strings.IndexByte(r.rest, '\n')
	if i < 0 {
		r.fail()
		return ""
	}
	s := r.take(i)
	r.expect("\n")
	return s
}

// some returns the rest of the line: one byte or more.
func (r *reader) some() string {
	s := r.end()
	if s == "" {
		r.fail()
	}
	return s
}

// number returns the number that is written so, with at most so many digits. strconv takes signs and zeros ahead, too.
func (r *reader) number(s string, most int) int {
	n, err := strconv.ParseUint(s, 10, 63)
	if len(s) > most || err != nil || strconv.FormatUint(n, 10) != s {
		r.fail()
		return 0
	}
	return int(n)
}

// choice returns which word it is, from 1 on.
func (r *reader) choice(s string, words []string) int {
	i := slices.Index(words, s)
	if i < 0 {
		r.fail()
	}
	return i + 1
}
