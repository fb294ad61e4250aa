package event

import (
	"strconv"
	"strings"

	"inquest/api"
)

const (
	envelopeMark = "envelope "
	countDigits  = 3 // the most digits of the number of items
	longDigits   = 7 // the most digits of the length of an item
)

// Seal packs items into an envelope.
func Seal(l []Item) (string, api.Errno) {
	if e := checkItems(l); e != api.OK {
		return "", e
	}
	var b strings.Builder
	for _, item := range l {
		// All of the items may be much more than what memory has room for.
		if b.Len()+len(item.Body) > api.MaxText {
			return "", api.ErrLarge
		}
		b.WriteString(item.Kind + " " + strconv.Itoa(len(item.Body)) + "\n")
		b.WriteString(item.Body + "\n")
	}
	rest := b.String()
	s := envelopeMark + strconv.Itoa(len(l)) + " " + Sum(rest) + "\n" + rest
	if len(s) > api.MaxText {
		return "", api.ErrLarge
	}
	return s, api.OK
}

// Open returns the items of an envelope.
func Open(s string) ([]Item, api.Errno) {
	if len(s) > api.MaxText {
		return nil, api.ErrLarge
	}
	r := &reader{rest: s}
	r.expect(envelopeMark)
	count := r.number(r.word(), countDigits)
	sum := r.end()
	if r.failed || !isDigest(sum) {
		return nil, api.ErrSyntax
	}
	if sum != Sum(r.rest) {
		return nil, api.ErrState
	}
	var l []Item
	for range count {
		l = append(l, readItem(r))
	}
	if r.failed || r.rest != "" {
		return nil, api.ErrSyntax
	}
	if e := checkItems(l); e != api.OK {
		return nil, e
	}
	return l, api.OK
}

func readItem(r *reader) Item {
	kind := r.word()
	long := r.number(r.end(), longDigits)
	body := r.take(long)
	r.expect("\n")
	return Item{kind, body}
}

func checkItems(l []Item) api.Errno {
	if len(l) > MaxItems {
		return api.ErrLarge
	}
	for _, item := range l {
		if !isName(item.Kind) {
			return api.ErrName
		}
	}
	return api.OK
}
