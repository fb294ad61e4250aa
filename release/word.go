package release

import (
	"strconv"
	"strings"

	"inquest/api"
)

// checkWord asks for a word that is not empty, with no byte below least.
func checkWord(s string, least byte) api.Errno {
	switch {
	case s == "":
		return api.ErrForm
	case len(s) > api.MaxWord:
		return api.ErrLarge
	case !each(s, func(b byte) bool { return b >= least && b <= 126 }):
		return api.ErrByte
	}
	return api.OK
}

func isMoment(n int) bool { return n >= 0 && n <= api.MaxMoment }

func isName(s string) bool {
	return s != "" && len(s) <= api.MaxName && isSmall(s[0]) && each(s, inName)
}

func isDigit(b byte) bool { return b >= '0' && b <= '9' }

func isSmall(b byte) bool { return b >= 'a' && b <= 'z' }

func inName(b byte) bool { return isSmall(b) || isDigit(b) || strings.IndexByte("-._", b) >= 0 }

// each tells whether all bytes are as told.
func each(s string, is func(b byte) bool) bool {
	for i := range len(s) {
		if !is(s[i]) {
			return false
		}
	}
	return true
}

// readNumber reads digits, at most so many, without a 0 before others.
func readNumber(s string, most int) (int, bool) {
	if s == "" || len(s) > most || len(s) > 1 && s[0] == '0' || !each(s, isDigit) {
		return 0, false
	}
	n, err := strconv.Atoi(s)
	return n, err == nil
}
