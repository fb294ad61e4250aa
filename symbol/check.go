package symbol

import (
	"slices"
	"strings"

	"inquest/api"
	"inquest/stack"
)

const (
	idLong   = 16
	idDigits = "0123456789abcdef"
	// callMark stands between a module and a function in lines of frames, so neither may have it.
	callMark = "!"
)

// CheckTable returns the first error of a table.
func CheckTable(t Table) api.Errno {
	if !isId(t.Id) {
		return api.ErrForm
	}
	if t.Size < 1 || t.Size > MaxSize {
		return api.ErrRange
	}
	// Each list leans on those before it.
	for _, check := range [...]func(Table) api.Errno{checkFiles, checkFuncs, checkRows, checkCalls} {
		if e := check(t); e != api.OK {
			return e
		}
	}
	return api.OK
}

func checkFiles(t Table) api.Errno {
	if len(t.Files) > MaxFiles {
		return api.ErrLarge
	}
	for i, file := range t.Files {
		if file == "" {
			return api.ErrForm
		}
		if e := stack.CheckFrame(api.Frame{Func: "f", File: file, Addr: -1}); e != api.OK {
			return e
		}
		if slices.Contains(t.Files[:i], file) {
			return api.ErrTwice
		}
	}
	return api.OK
}

func checkFuncs(t Table) api.Errno {
	if len(t.Funcs) > MaxFuncs {
		return api.ErrLarge
	}
	end := 0
	for _, f := range t.Funcs {
		if e := checkFuncName(f.Name); e != api.OK {
			return e
		}
		if !isSpan(f.From, f.To, t.Size) {
			return api.ErrRange
		}
		if f.From < end {
			return api.ErrOrder
		}
		end = f.To
	}
	return api.OK
}

func checkRows(t Table) api.Errno {
	if len(t.Rows) > MaxRows {
		return api.ErrLarge
	}
	before := -1
	for _, r := range t.Rows {
		if r.At < 0 || r.At >= t.Size || r.File < -1 || r.File >= len(t.Files) || r.Line < 0 || r.Line > api.MaxLine {
			return api.ErrRange
		}
		if (r.File == -1) != (r.Line == 0) {
			return api.ErrForm
		}
		if r.At <= before {
			return api.ErrOrder
		}
		before = r.At
	}
	return api.OK
}

func checkCalls(t Table) api.Errno {
	if len(t.Calls) > MaxCalls {
		return api.ErrLarge
	}
	var around []Call // the earlier calls that have where a call begins, each one within those before it
	for i, c := range t.Calls {
		if e := checkFuncName(c.Name); e != api.OK {
			return e
		}
		if !isSpan(c.From, c.To, t.Size) || c.File < 0 || c.File >= len(t.Files) || c.Line < 1 || c.Line > api.MaxLine {
			return api.ErrRange
		}
		if i > 0 && beginsBefore(c, t.Calls[i-1]) {
			return api.ErrOrder
		}
		around = slices.DeleteFunc(around, func(a Call) bool { return a.To <= c.From })
		if !inFunc(t, c) || len(around) > 0 && around[len(around)-1].To < c.To {
			return api.ErrState
		}
		if len(around) >= MaxDeep {
			return api.ErrDeep
		}
		around = append(around, c)
	}
	return api.OK
}

// beginsBefore tells whether a call belongs before another one: the outer one comes first.
func beginsBefore(c, d Call) bool {
	return c.From < d.From || c.From == d.From && c.To > d.To
}

// inFunc tells whether one function has all offsets of a call. (Functions that were checked do not overlap.)
func inFunc(t Table, c Call) bool {
	i, ok := FuncAt(t, c.From)
	return ok && c.To <= t.Funcs[i].To
}

func checkFuncName(name string) api.Errno {
	return checkName(name, api.Frame{Func: name, Addr: -1})
}

func checkModuleName(name string) api.Errno {
	if name == "" {
		return api.ErrForm
	}
	return checkName(name, api.Frame{Module: name, Func: "f", Addr: -1})
}

// checkName returns the first error of a name that is a part of a frame.
func checkName(name string, f api.Frame) api.Errno {
	if e := stack.CheckFrame(f); e != api.OK {
		return e
	}
	if strings.Contains(name, callMark) {
		return api.ErrByte
	}
	return api.OK
}

// isSpan tells whether from to to, without to, are one number or more, all of them from 0 to size - 1.
func isSpan(from, to, size int) bool {
	return 0 <= from && from < to && to <= size
}

func isId(s string) bool {
	return len(s) == idLong && strings.Trim(s, idDigits) == ""
}
