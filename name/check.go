package name

import "inquest/api"

// Check returns the first error of a symbol.
func Check(s Symbol) api.Errno {
	_, e := Types(s)
	return e
}

// Types returns how many types a symbol has, in all.
func Types(s Symbol) (int, api.Errno) {
	types := 0
	var checkType func(t Type, within int) api.Errno
	checkTypes := func(l []Type, most, within int) api.Errno {
		if len(l) > most {
			return api.ErrLarge
		}
		for _, t := range l {
			if e := checkType(t, within); e != api.OK {
				return e
			}
		}
		return api.OK
	}
	checkName := func(l []Part, within int) api.Errno {
		if e := checkLong(len(l), MaxParts); e != api.OK {
			return e
		}
		for _, p := range l {
			if e := checkText(p.Text); e != api.OK {
				return e
			}
			if e := checkTypes(p.Args, MaxArgs, within); e != api.OK {
				return e
			}
		}
		return api.OK
	}
	checkType = func(t Type, within int) api.Errno {
		if within == MaxDeep {
			return api.ErrDeep
		}
		if types++; types > MaxTypes {
			return api.ErrLarge
		}
		if e := checkKind(t); e != api.OK {
			return e
		}
		if t.Kind == Plain {
			return checkName(t.Name, within+1)
		}
		return checkTypes(t.Of, MaxArgs+1, within+1)
	}
	if e := checkName(s.Name, 0); e != api.OK {
		return 0, e
	}
	if e := checkTypes(s.Takes, MaxArgs, 0); e != api.OK {
		return 0, e
	}
	return types, api.OK
}

// checkLong returns the error of what may not be empty and not be longer than most.
func checkLong(long, most int) api.Errno {
	if long == 0 {
		return api.ErrForm
	}
	if long > most {
		return api.ErrLarge
	}
	return api.OK
}

func checkText(s string) api.Errno {
	if e := checkLong(len(s), MaxIdent); e != api.OK {
		return e
	}
	for i := range len(s) {
		if !fitsIdentifier(s[i], i == 0) {
			return api.ErrByte
		}
	}
	return api.OK
}

// checkKind tells whether a type has what its kind asks for, and nothing else.
func checkKind(t Type) api.Errno {
	if t.Kind < Plain || t.Kind > Func {
		return api.ErrKind
	}
	wrong := len(t.Name) > 0
	switch t.Kind {
	case Plain:
		wrong = len(t.Of) > 0
	case Func:
		wrong = wrong || len(t.Of) == 0
	default:
		wrong = wrong || len(t.Of) != 1
	}
	if wrong {
		return api.ErrForm
	}
	return api.OK
}

func isDigit(b byte) bool { return '0' <= b && b <= '9' }

// fitsIdentifier tells whether an identifier may have a byte, as its first one or behind that.
func fitsIdentifier(b byte, first bool) bool {
	letter := 'a' <= b && b <= 'z' || 'A' <= b && b <= 'Z' || b == '_'
	return letter || !first && isDigit(b)
}
