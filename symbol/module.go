package symbol

import (
	"slices"

	"inquest/api"
	"inquest/stack"
)

// CheckModules returns the first error of modules.
func CheckModules(l []Module) api.Errno {
	if len(l) > MaxModules {
		return api.ErrLarge
	}
	end := 0
	for _, m := range l {
		if e := checkModuleName(m.Name); e != api.OK {
			return e
		}
		if !isId(m.Id) {
			return api.ErrForm
		}
		if !isSpan(m.From, m.To, api.MaxAddr+1) {
			return api.ErrRange
		}
		if m.From < end {
			return api.ErrOrder
		}
		end = m.To
	}
	return api.OK
}

// ModuleAt returns the number of the first module that has an address. The modules may have errors.
func ModuleAt(l []Module, addr int) (int, bool) {
	for i, m := range l {
		if m.From <= addr && addr < m.To {
			return i, true
		}
	}
	return 0, false
}

// Resolve looks up the addresses of frames.
func Resolve(frames []api.Frame, modules []Module, tables []Table) ([]api.Frame, api.Errno) {
	if e := checkAll(frames, modules, tables); e != api.OK {
		return nil, e
	}
	var result []api.Frame
	for i, f := range frames {
		found, ok := resolveFrame(f, i > 0, modules, tables)
		if !ok {
			found = []api.Frame{f}
		}
		result = append(result, found...)
	}
	if len(result) > api.MaxFrames {
		return nil, api.ErrLarge
	}
	return result, api.OK
}

// resolveFrame returns the frames that a frame becomes; false: it stays. (No module that was checked has the address -1.)
func resolveFrame(f api.Frame, returns bool, modules []Module, tables []Table) ([]api.Frame, bool) {
	i, ok := ModuleAt(modules, f.Addr)
	if !ok {
		return nil, false
	}
	m := modules[i]
	table := tableOf(tables, m.Id)
	if table < 0 {
		return nil, false
	}
	offset := f.Addr - m.From
	if returns && offset > 0 {
		offset-- // where a call returns to may be of another line, or another function, than the call
	}
	places, e := placesAt(tables[table], offset)
	if e != api.OK {
		return nil, false
	}
	var l []api.Frame
	for _, p := range places {
		l = append(l, api.Frame{Module: m.Name, Func: p.Func, File: p.File, Line: p.Line, Addr: f.Addr, Own: f.Own})
	}
	return l, true
}

// Missing returns the ids of which a table is needed to resolve frames.
func Missing(frames []api.Frame, modules []Module, tables []Table) ([]string, api.Errno) {
	if e := checkAll(frames, modules, tables); e != api.OK {
		return nil, e
	}
	var ids []string
	for _, f := range frames {
		i, ok := ModuleAt(modules, f.Addr)
		if !ok {
			continue
		}
		id := modules[i].Id
		if tableOf(tables, id) < 0 && !slices.Contains(ids, id) {
			ids = append(ids, id)
		}
	}
	return ids, api.OK
}

func checkAll(frames []api.Frame, modules []Module, tables []Table) api.Errno {
	if _, _, e := stack.Cut(frames, api.MaxFrames); e != api.OK {
		return e
	}
	if e := CheckModules(modules); e != api.OK {
		return e
	}
	if len(tables) > MaxModules {
		return api.ErrLarge
	}
	for i, t := range tables {
		if e := CheckTable(t); e != api.OK {
			return e
		}
		if tableOf(tables[:i], t.Id) >= 0 {
			return api.ErrTwice
		}
	}
	return api.OK
}

// tableOf returns the number of the table that has an id, or -1.
func tableOf(tables []Table, id string) int {
	return slices.IndexFunc(tables, func(t Table) bool { return t.Id == id })
}
