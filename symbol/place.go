package symbol

import (
	"slices"
	"sort"

	"inquest/api"
)

// FuncAt returns the number of the first function that has an offset. The table may have errors.
func FuncAt(t Table, offset int) (int, bool) {
	for i, f := range t.Funcs {
		if f.From <= offset && offset < f.To {
			return i, true
		}
	}
	return 0, false
}

// At returns the places of an offset, the innermost first.
func At(t Table, offset int) ([]Place, api.Errno) {
	if e := CheckTable(t); e != api.OK {
		return nil, e
	}
	return placesAt(t, offset)
}

// placesAt is At of a table that was checked.
func placesAt(t Table, offset int) ([]Place, api.Errno) {
	if offset < 0 || offset >= t.Size {
		return nil, api.ErrRange
	}
	i, ok := FuncAt(t, offset)
	if !ok {
		return nil, api.ErrNone
	}
	// From outside in: a call tells the line of what is around it, and the row that of the innermost one.
	var places []Place
	name := t.Funcs[i].Name
	for _, c := range t.Calls {
		if c.From <= offset && offset < c.To {
			places = append(places, Place{name, t.Files[c.File], c.Line})
			name = c.Name
		}
	}
	file, line := lineAt(t, offset)
	places = append(places, Place{name, file, line})
	slices.Reverse(places)
	return places, api.OK
}

// lineAt returns what the rows tell of an offset: nothing, if no row has begun or nothing is known.
func lineAt(t Table, offset int) (string, int) {
	next := sort.Search(len(t.Rows), func(i int) bool { return t.Rows[i].At > offset })
	if next == 0 || t.Rows[next-1].File == -1 {
		return "", 0
	}
	r := t.Rows[next-1]
	return t.Files[r.File], r.Line
}

// Lines returns the offsets that have a line of a file.
func Lines(t Table, file string, line int) ([]Span, api.Errno) {
	if e := CheckTable(t); e != api.OK {
		return nil, e
	}
	number := slices.Index(t.Files, file)
	if number < 0 {
		return nil, api.ErrNone
	}
	if line < 1 || line > api.MaxLine {
		return nil, api.ErrRange
	}
	var spans []Span
	for i, r := range t.Rows {
		if r.File != number || r.Line != line {
			continue
		}
		end := t.Size
		if i+1 < len(t.Rows) {
			end = t.Rows[i+1].At
		}
		spans = addSpan(spans, Span{r.At, end})
	}
	return spans, api.OK
}

// addSpan adds a span behind the others, or to the last one, if they touch.
func addSpan(spans []Span, s Span) []Span {
	last := len(spans) - 1
	if last >= 0 && spans[last].To == s.From {
		spans[last].To = s.To
		return spans
	}
	return append(spans, s)
}
