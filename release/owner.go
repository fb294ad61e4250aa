package release

import (
	"slices"
	"strings"

	"inquest/api"
)

const mostWho = 20 // names of an owner

// CheckOwners returns the first error of owners.
func CheckOwners(l []Owner) api.Errno {
	if len(l) > MaxOwners {
		return api.ErrLarge
	}
	for _, o := range l {
		if e := checkWord(o.Pattern, '!'); e != api.OK {
			return e
		}
		if e := checkWho(o.Who); e != api.OK {
			return e
		}
	}
	return api.OK
}

func checkWho(l []string) api.Errno {
	switch {
	case len(l) == 0:
		return api.ErrForm
	case len(l) > mostWho:
		return api.ErrLarge
	}
	for i, who := range l {
		switch {
		case !isName(who):
			return api.ErrName
		case slices.Contains(l[:i], who):
			return api.ErrTwice
		}
	}
	return api.OK
}

// OwnersOf returns whose a path is: Who of the last one whose Pattern fits.
func OwnersOf(l []Owner, path string) ([]string, api.Errno) {
	e := CheckOwners(l)
	switch {
	case e != api.OK:
		return nil, e
	case path == "":
		return nil, api.ErrForm
	case len(path) > api.MaxWord:
		return nil, api.ErrLarge
	}
	for _, o := range slices.Backward(l) {
		if Fits(o.Pattern, path) {
			return slices.Clone(o.Who), api.OK
		}
	}
	return nil, api.ErrNone
}

// OwnersText writes owners as lines.
func OwnersText(l []Owner) (string, api.Errno) {
	if e := CheckOwners(l); e != api.OK {
		return "", e
	}
	var b strings.Builder
	for _, o := range l {
		b.WriteString(o.Pattern + " " + strings.Join(o.Who, " ") + "\n")
	}
	if b.Len() > api.MaxText {
		return "", api.ErrLarge
	}
	return b.String(), api.OK
}

// ReadOwners reads what OwnersText writes; the int is the number of the line with ErrSyntax.
func ReadOwners(s string) ([]Owner, int, api.Errno) {
	if len(s) > api.MaxText {
		return nil, 0, api.ErrLarge
	}
	var l []Owner
	for s != "" {
		line, rest, ended := strings.Cut(s, "\n")
		words := strings.Split(line, " ")
		if !ended || len(words) < 2 || slices.Contains(words, "") {
			return nil, len(l) + 1, api.ErrSyntax
		}
		l = append(l, Owner{words[0], words[1:]})
		s = rest
	}
	if e := CheckOwners(l); e != api.OK {
		return nil, 0, e
	}
	return l, 0, api.OK
}
