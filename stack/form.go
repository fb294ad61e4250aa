package stack

import (
	"slices"
	"strings"

	"inquest/api"
)

// What lines of traces begin with, or are.
const (
	atMark    = "    at "
	moreMark  = "    ... "
	moreEnd   = " more"
	causeMark = "Caused by: "
	traceLine = "Traceback:"
	frameMark = "  "
	thenLine  = "which led to:"
	faultMark = "fault "
	placeMark = "\t"
)

// What parts of the line of a frame begin with, or are.
const (
	fileMark = " ("
	addrMark = " @"
	ownMark  = " *"
)

// leastShared is the least number of frames that a line can stand for: with one, it would be no shorter.
const leastShared = 2

// format is how traces of one form are written and read.
type format struct {
	write func(b *strings.Builder, l []api.Fault)
	read  func(t *trace) ([]api.Fault, bool)
}

// formatOf returns what belongs to a form; false: there is no such form.
func formatOf(form int) (format, bool) {
	forms := [...]format{
		Inner: {writeInner, readInner},
		Outer: {writeOuter, readOuter},
		Pairs: {writePairs, readPairs},
	}
	if form < Inner || form >= len(forms) {
		return format{}, false
	}
	return forms[form], true
}

// Write writes faults in a form.
func Write(l []api.Fault, form int) (string, api.Errno) {
	if e := Check(l); e != api.OK {
		return "", e
	}
	f, ok := formatOf(form)
	if !ok {
		return "", api.ErrKind
	}
	if slices.ContainsFunc(l, ambiguous) {
		return "", api.ErrByte
	}
	var b strings.Builder
	f.write(&b, l)
	if b.Len() > api.MaxText {
		return "", api.ErrLarge
	}
	return b.String(), api.OK
}

// ambiguous tells whether a reader could not tell where a module ends and its function begins.
func ambiguous(f api.Fault) bool {
	return slices.ContainsFunc(f.Frames, func(frame api.Frame) bool {
		return strings.Contains(frame.Module, "!") || strings.Contains(frame.Func, "!")
	})
}

// Read reads what Write writes in a form; the int is the number of the line with ErrSyntax.
func Read(s string, form int) ([]api.Fault, int, api.Errno) {
	if len(s) > api.MaxText {
		return nil, 0, api.ErrLarge
	}
	f, ok := formatOf(form)
	if !ok {
		return nil, 0, api.ErrKind
	}
	t := &trace{rest: s}
	l, ok := f.read(t)
	if !ok {
		return nil, t.line, api.ErrSyntax
	}
	if e := Check(l); e != api.OK {
		return nil, 0, e
	}
	return l, 0, api.OK
}

// Guess returns the first form in which Read takes the string, or 0.
func Guess(s string) int {
	for form := Inner; form <= Pairs; form++ {
		if _, _, e := Read(s, form); e == api.OK {
			return form
		}
	}
	return 0
}
