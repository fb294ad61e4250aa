package rate

import (
	"strings"

	"inquest/api"
)

// CheckQuotas returns the first error of quotas.
func CheckQuotas(l []Quota) api.Errno {
	if len(l) > MaxQuotas {
		return api.ErrLarge
	}
	names := map[string]bool{}
	for _, q := range l {
		switch {
		case !isName(q.Name):
			return api.ErrName
		case names[q.Name]:
			return api.ErrTwice
		}
		names[q.Name] = true
		if e := checkKey(q.Key); e != api.OK {
			return e
		}
		if e := CheckBucket(q.Bucket); e != api.OK {
			return e
		}
	}
	return api.OK
}

// checkAmounts returns the first error of a list of so many keys, each with an amount of at most most.
func checkAmounts(long, most int, at func(i int) (string, int)) api.Errno {
	if long > MaxKeys {
		return api.ErrLarge
	}
	keys := map[string]bool{}
	for i := range long {
		key, amount := at(i)
		if e := checkKey(key); e != api.OK {
			return e
		}
		switch {
		case keys[key]:
			return api.ErrTwice
		case !within(amount, 0, most):
			return api.ErrRange
		}
		keys[key] = true
	}
	return api.OK
}

func checkKey(s string) api.Errno {
	switch {
	case len(s) > api.MaxWord:
		return api.ErrLarge
	case !each(s, func(b byte) bool { return b >= 32 && b <= 126 }):
		return api.ErrByte
	}
	return api.OK
}

// checkNumbers asks for numbers from least to most, at most MaxCounts of them.
func checkNumbers(l []int, least, most int) api.Errno {
	if len(l) > MaxCounts {
		return api.ErrLarge
	}
	for _, n := range l {
		if !within(n, least, most) {
			return api.ErrRange
		}
	}
	return api.OK
}

func within(n, least, most int) bool { return n >= least && n <= most }

func isMoment(n int) bool { return within(n, 0, api.MaxMoment) }

func isName(s string) bool {
	return s != "" && len(s) <= api.MaxName && isSmall(s[0]) && each(s, inName)
}

func isDigit(b byte) bool { return b >= '0' && b <= '9' }

func isSmall(b byte) bool { return b >= 'a' && b <= 'z' }

func inName(b byte) bool { return isSmall(b) || isDigit(b) || strings.IndexByte("-._", b) >= 0 }

// each tells whether all bytes are as told.
func each(s string, is func(b byte) bool) bool {
	for i := range len(s) {
		if !is(s[i]) {
			return false
		}
	}
	return true
}
