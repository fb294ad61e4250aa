package symbol_test

import (
	"math/rand"
	"slices"
	"strconv"
	"strings"
	"testing"

	"inquest/api"
	"inquest/symbol"
)

const (
	id    = "0123456789abcdef"
	other = "fedcba9876543210"
)

// example is the table of the chapter's example.
func example() symbol.Table {
	return symbol.Table{
		Id: id, Size: 100, Files: []string{"a.c"},
		Funcs: []symbol.Func{{Name: "main", From: 0, To: 40}},
		Rows:  []symbol.Row{{At: 0, File: 0, Line: 3}, {At: 10, File: 0, Line: 8}},
		Calls: []symbol.Call{{Name: "low", From: 10, To: 20, File: 0, Line: 5}},
	}
}

// sample has gaps between functions, a name of two functions, unknown lines, and calls within one another.
func sample() symbol.Table {
	return symbol.Table{
		Id: other, Size: 100, Files: []string{"a.c", "b/c.h"},
		Funcs: []symbol.Func{{"main", 2, 40}, {"util", 50, 70}, {"main", 70, 90}},
		Rows:  []symbol.Row{{1, 0, 3}, {10, 1, 8}, {20, -1, 0}, {30, 1, 8}, {50, 0, 3}, {60, 0, 3}, {75, 0, 4}, {95, 1, 1}},
		Calls: []symbol.Call{{"low", 10, 20, 0, 5}, {"lower", 12, 18, 1, 6}, {"same", 14, 16, 1, 7}, {"same", 14, 16, 0, 9_999_999}, {"util", 30, 40, 0, 9}, {"low", 50, 70, 0, 2}},
	}
}

// with is the sample with a change.
func with(change func(t *symbol.Table)) symbol.Table {
	t := sample()
	change(&t)
	return t
}

// word is a string of so many bytes.
func word(n int) string { return strings.Repeat("w", n) }

// equal tells whether two tables are equal; empty and nil lists are the same.
func equal(a, b symbol.Table) bool {
	return a.Id == b.Id && a.Size == b.Size && slices.Equal(a.Files, b.Files) && slices.Equal(a.Funcs, b.Funcs) && slices.Equal(a.Rows, b.Rows) && slices.Equal(a.Calls, b.Calls)
}

// zero tells whether nothing is in a table.
func zero(t symbol.Table) bool {
	return equal(t, symbol.Table{})
}

// largest has as much as a table may have.
func largest() symbol.Table {
	t := symbol.Table{Id: id, Size: symbol.MaxSize}
	long := func(i int) string { return strings.Repeat("w", 190) + strconv.Itoa(1_000_000_000+i) }
	for i := range symbol.MaxFiles {
		t.Files = append(t.Files, long(i))
	}
	for i := range symbol.MaxFuncs {
		at := symbol.MaxSize - 10_000 + 10*i
		t.Funcs = append(t.Funcs, symbol.Func{Name: long(i), From: at, To: at + 10})
		t.Calls = append(t.Calls, symbol.Call{Name: long(2 * i), From: at, To: at + 9, File: 199, Line: api.MaxLine})
	}
	for i := range symbol.MaxRows {
		t.Rows = append(t.Rows, symbol.Row{At: symbol.MaxSize - symbol.MaxRows + i, File: 199 * (i % 2), Line: api.MaxLine - i%2*(api.MaxLine-1)})
	}
	return t
}

// badTable is a table with an error.
type badTable struct {
	name  string
	table symbol.Table
	want  api.Errno
}

// badTables has a table or more for each kind of error of CheckTable.
func badTables() []badTable {
	return []badTable{
		{"id", with(func(t *symbol.Table) { t.Id = "" }), api.ErrForm},
		{"size", with(func(t *symbol.Table) { t.Size = 0 }), api.ErrRange},
		{"files", with(func(t *symbol.Table) { t.Files = make([]string, 201) }), api.ErrLarge},
		{"file", with(func(t *symbol.Table) { t.Files[0] = "a:c" }), api.ErrByte},
		{"file twice", with(func(t *symbol.Table) { t.Files[1] = "a.c" }), api.ErrTwice},
		{"function", with(func(t *symbol.Table) { t.Funcs[1].Name = "a!b" }), api.ErrByte},
		{"functions", with(func(t *symbol.Table) { t.Funcs[1].From = 39 }), api.ErrOrder},
		{"row", with(func(t *symbol.Table) { t.Rows[2].Line = 1 }), api.ErrForm},
		{"call", with(func(t *symbol.Table) { t.Calls[0].Line = 0 }), api.ErrRange},
		{"calls", with(func(t *symbol.Table) { t.Calls[1].To = 21 }), api.ErrState},
		{"deep", with(func(t *symbol.Table) { t.Calls = slices.Repeat(t.Calls[:1], 11) }), api.ErrDeep},
	}
}

// randomTable is a small table without errors.
func randomTable(r *rand.Rand) symbol.Table {
	name := func() string { return string(rune('a' + r.Intn(4))) }
	t := symbol.Table{Id: id, Size: 1 + r.Intn(30), Files: []string{"x", "y", "z"}[:r.Intn(4)]}
	for at := r.Intn(5); at < t.Size; {
		to := min(t.Size, at+1+r.Intn(12))
		t.Funcs = append(t.Funcs, symbol.Func{Name: name(), From: at, To: to})
		at = to + r.Intn(3)
	}
	for at := r.Intn(4); at < t.Size; at += 1 + r.Intn(6) {
		row := symbol.Row{At: at, File: r.Intn(len(t.Files)+1) - 1}
		if row.File >= 0 {
			row.Line = 1 + r.Intn(2)
		}
		t.Rows = append(t.Rows, row)
	}
	for range r.Intn(30) {
		if len(t.Files) == 0 {
			break
		}
		from := r.Intn(t.Size)
		c := symbol.Call{Name: name(), From: from, To: from + 1 + r.Intn(10), File: r.Intn(len(t.Files)), Line: 1 + r.Intn(3)}
		t.Calls = append(t.Calls, c)
		slices.SortStableFunc(t.Calls, func(a, b symbol.Call) int {
			if a.From != b.From {
				return a.From - b.From
			}
			return b.To - a.To
		})
		if symbol.CheckTable(t) != api.OK {
			i := slices.Index(t.Calls, c)
			t.Calls = slices.Delete(t.Calls, i, i+1)
		}
	}
	return t
}

// has tells whether from to to, without to, have an offset.
func has(from, to, offset int) bool { return from <= offset && offset < to }

// randomTables calls a test with many tables.
func randomTables(t *testing.T, seed int64, test func(r *rand.Rand, x symbol.Table)) {
	t.Helper()
	r := rand.New(rand.NewSource(seed))
	for range 3000 {
		x := randomTable(r)
		if e := symbol.CheckTable(x); e != api.OK {
			t.Fatal(x, e)
		}
		test(r, x)
	}
}
