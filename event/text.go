package event

import (
	"cmp"
	"strconv"
	"strings"

	"inquest/api"
	"inquest/stack"
)

// What lines of events begin with, or are.
const (
	eventMark   = "event "
	atMark      = "at "
	levelMark   = "level "
	weightMark  = "weight "
	releaseMark = "release "
	userMark    = "user "
	tagMark     = "tag "
	crumbMark   = "crumb "
	faultsLine  = "faults\n"
)

const decimals = 10 // the most digits of a number of an event

// Text writes an event as lines.
func Text(e api.Event) (string, api.Errno) {
	if x := Check(e); x != api.OK {
		return "", x
	}
	faults, x := stack.Write(e.Faults, stack.Inner)
	if x != api.OK {
		return "", x
	}
	s := headText(e) + faultsLine + faults
	if len(s) > api.MaxText {
		return "", api.ErrLarge
	}
	return s, api.OK
}

// headText writes all but the faults.
func headText(e api.Event) string {
	var b strings.Builder
	line := func(mark string, parts ...string) {
		b.WriteString(mark + strings.Join(parts, " ") + "\n")
	}
	line(eventMark, e.Id)
	line(atMark, strconv.Itoa(e.At))
	line(levelMark, Levels()[e.Level-1])
	line(weightMark, strconv.Itoa(e.Weight))
	if e.Release != "" {
		line(releaseMark, e.Release)
	}
	if e.User != "" {
		line(userMark, e.User)
	}
	for _, tag := range e.Tags {
		line(tagMark, tag.Name, tag.Value)
	}
	for _, crumb := range e.Crumbs {
		line(crumbMark, strconv.Itoa(crumb.At), crumb.Kind, crumb.Text)
	}
	return b.String()
}

// Read reads what Text writes; the int is the number of the line with ErrSyntax.
func Read(s string) (api.Event, int, api.Errno) {
	if len(s) > api.MaxText {
		return api.Event{}, 0, api.ErrLarge
	}
	r := &reader{rest: s}
	e := readHead(r)
	r.start(faultsLine)
	if r.failed {
		return api.Event{}, r.line, api.ErrSyntax
	}
	faults, line, x := stack.Read(r.rest, stack.Inner)
	if x == api.ErrSyntax {
		return api.Event{}, r.line + line, x
	}
	e.Faults = faults
	// With an error of the faults there are none, so Check alone would not return it.
	if x := cmp.Or(checkHead(e), x, Check(e)); x != api.OK {
		return api.Event{}, 0, x
	}
	return e, 0, api.OK
}

// readHead reads what headText writes.
func readHead(r *reader) api.Event {
	var e api.Event
	r.start(eventMark)
	e.Id = r.some()
	r.start(atMark)
	e.At = r.number(r.end(), decimals)
	r.start(levelMark)
	e.Level = r.choice(r.end(), Levels())
	r.start(weightMark)
	e.Weight = r.number(r.end(), decimals)
	if r.begins(releaseMark) {
		r.start(releaseMark)
		e.Release = r.some()
	}
	if r.begins(userMark) {
		r.start(userMark)
		e.User = r.some()
	}
	for r.begins(tagMark) {
		r.start(tagMark)
		name := r.word()
		e.Tags = append(e.Tags, api.Tag{Name: name, Value: r.end()})
	}
	for r.begins(crumbMark) {
		r.start(crumbMark)
		at := r.number(r.word(), decimals)
		kind := r.word()
		e.Crumbs = append(e.Crumbs, api.Crumb{At: at, Kind: kind, Text: r.end()})
	}
	return e
}
