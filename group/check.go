package group

import "inquest/api"

// CheckRules returns the first error of rules.
func CheckRules(l []Rule) api.Errno {
	if len(l) > MaxRules {
		return api.ErrLarge
	}
	for _, r := range l {
		if e := checkRule(r); e != api.OK {
			return e
		}
	}
	return api.OK
}

func checkRule(r Rule) api.Errno {
	switch {
	case len(r.If) > MaxMatch, len(r.Then) > MaxMatch:
		return api.ErrLarge
	case len(r.Then) == 0:
		return api.ErrNone
	}
	for _, m := range r.If {
		if e := checkMatch(m); e != api.OK {
			return e
		}
	}
	for _, a := range r.Then {
		if e := checkAct(a); e != api.OK {
			return e
		}
	}
	return api.OK
}

func checkMatch(m Match) api.Errno {
	switch {
	case m.On < Func, m.On > Own:
		return api.ErrKind
	case m.On == Own && m.Glob != "":
		return api.ErrForm
	case len(m.Glob) > MaxGlob:
		return api.ErrLarge
	case !printable(m.Glob):
		return api.ErrByte
	}
	return api.OK
}

func checkAct(a Act) api.Errno {
	switch {
	case a.Do < MakeOwn, a.Do > Key:
		return api.ErrKind
	case a.N != 0 && a.Do != Most, a.Text != "" && a.Do != Key:
		return api.ErrForm
	case a.Do == Most && (a.N < 1 || a.N > api.MaxFrames):
		return api.ErrRange
	case a.Do == Key && a.Text == "":
		return api.ErrForm
	case len(a.Text) > MaxKey:
		return api.ErrLarge
	case !printable(a.Text):
		return api.ErrByte
	}
	return api.OK
}

// printable tells whether all bytes are from 32 to 126.
func printable(s string) bool {
	for i := range len(s) {
		if s[i] < 32 || s[i] > 126 {
			return false
		}
	}
	return true
}
