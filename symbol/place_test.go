package symbol_test

import (
	"math"
	"math/rand"
	"slices"
	"testing"

	"inquest/api"
	"inquest/symbol"
)

// P2.2
func TestFuncAt(t *testing.T) {
	for offset, want := range map[int]int{2: 0, 39: 0, 50: 1, 69: 1, 70: 2, 89: 2} {
		if i, ok := symbol.FuncAt(sample(), offset); i != want || !ok {
			t.Error(offset, i, ok)
		}
	}
	for _, offset := range []int{-1, 0, 1, 40, 49, 90, 99, 100, math.MinInt, math.MaxInt} {
		if i, ok := symbol.FuncAt(sample(), offset); i != 0 || ok {
			t.Error(offset, i, ok)
		}
	}
	// It asks for no errors: the first of functions in any order.
	wild := symbol.Table{Funcs: []symbol.Func{{"", 30, 20}, {"", 10, 20}, {"", 0, 15}, {"", -5, math.MaxInt}}}
	for offset, want := range map[int]int{25: 3, 12: 1, 19: 1, 5: 2, -5: 3, 20: 3, math.MaxInt - 1: 3} {
		if i, ok := symbol.FuncAt(wild, offset); i != want || !ok {
			t.Error(offset, i, ok)
		}
	}
}

// P2.2
func TestAt(t *testing.T) {
	cases := []struct {
		table  symbol.Table
		offset int
		want   []symbol.Place
	}{
		{example(), 12, []symbol.Place{{"low", "a.c", 8}, {"main", "a.c", 5}}},
		{example(), 4, []symbol.Place{{"main", "a.c", 3}}},
		{example(), 0, []symbol.Place{{"main", "a.c", 3}}},
		{example(), 10, []symbol.Place{{"low", "a.c", 8}, {"main", "a.c", 5}}},
		{example(), 9, []symbol.Place{{"main", "a.c", 3}}},
		{example(), 19, []symbol.Place{{"low", "a.c", 8}, {"main", "a.c", 5}}},
		{example(), 20, []symbol.Place{{"main", "a.c", 8}}},
		{sample(), 11, []symbol.Place{{"low", "b/c.h", 8}, {"main", "a.c", 5}}},
		{sample(), 13, []symbol.Place{{"lower", "b/c.h", 8}, {"low", "b/c.h", 6}, {"main", "a.c", 5}}},
		{sample(), 15, []symbol.Place{{"same", "b/c.h", 8}, {"same", "a.c", 9_999_999}, {"lower", "b/c.h", 7}, {"low", "b/c.h", 6}, {"main", "a.c", 5}}},
		{sample(), 25, []symbol.Place{{"main", "", 0}}},
		{sample(), 30, []symbol.Place{{"util", "b/c.h", 8}, {"main", "a.c", 9}}},
		{sample(), 69, []symbol.Place{{"low", "a.c", 3}, {"util", "a.c", 2}}},
		{sample(), 70, []symbol.Place{{"main", "a.c", 3}}},
		{sample(), 89, []symbol.Place{{"main", "a.c", 4}}},
		// No row is there, or has begun; or nothing is known within a call.
		{with(func(t *symbol.Table) { t.Rows = nil }), 13, []symbol.Place{{"lower", "", 0}, {"low", "b/c.h", 6}, {"main", "a.c", 5}}},
		{with(func(t *symbol.Table) { t.Rows = t.Rows[1:] }), 9, []symbol.Place{{"main", "", 0}}},
		{with(func(t *symbol.Table) { t.Rows[1] = symbol.Row{At: 10, File: -1} }), 11, []symbol.Place{{"low", "", 0}, {"main", "a.c", 5}}},
	}
	for _, c := range cases {
		if l, e := symbol.At(c.table, c.offset); !slices.Equal(l, c.want) || e != api.OK {
			t.Errorf("%d: %v %v, not %v", c.offset, l, e, c.want)
		}
	}
	for offset, want := range map[int]api.Errno{-1: api.ErrRange, 100: api.ErrRange, math.MinInt: api.ErrRange, math.MaxInt: api.ErrRange, 0: api.ErrNone, 1: api.ErrNone, 40: api.ErrNone, 99: api.ErrNone} {
		if l, e := symbol.At(sample(), offset); len(l) > 0 || e != want {
			t.Errorf("%d: %v %v, not %v", offset, l, e, want)
		}
	}
}

// plainPlaces is what P2.2 says, from the first place on.
func plainPlaces(x symbol.Table, offset int) []symbol.Place {
	name := ""
	for _, f := range x.Funcs {
		if has(f.From, f.To, offset) {
			name = f.Name
		}
	}
	if name == "" {
		return nil
	}
	var p symbol.Place
	for _, row := range x.Rows {
		if row.At <= offset {
			p = symbol.Place{}
			if row.File >= 0 {
				p = symbol.Place{File: x.Files[row.File], Line: row.Line}
			}
		}
	}
	var l []symbol.Place
	for i := len(x.Calls) - 1; i >= 0; i-- {
		if c := x.Calls[i]; has(c.From, c.To, offset) {
			p.Func = c.Name
			l = append(l, p)
			p = symbol.Place{File: x.Files[c.File], Line: c.Line}
		}
	}
	p.Func = name
	return append(l, p)
}

// plainSpans puts offsets together.
func plainSpans(size int, in func(offset int) bool) []symbol.Span {
	var l []symbol.Span
	for offset := range size {
		switch {
		case !in(offset):
		case len(l) > 0 && l[len(l)-1].To == offset:
			l[len(l)-1].To++
		default:
			l = append(l, symbol.Span{From: offset, To: offset + 1})
		}
	}
	return l
}

// P2.2 and P2.3: each offset of many tables.
func TestPlacesAgain(t *testing.T) {
	deepest := 0
	randomTables(t, 2, func(r *rand.Rand, x symbol.Table) {
		shares := map[string]int{}
		for offset := range x.Size {
			want := plainPlaces(x, offset)
			deepest = max(deepest, len(want))
			l, e := symbol.At(x, offset)
			if !slices.Equal(l, want) || (e == api.OK) != (len(want) > 0) {
				t.Fatal(x, offset, l, e, want)
			}
			if len(want) > 0 {
				shares[want[0].Func]++
			}
		}
		l, e := symbol.Shares(x)
		if len(l) != len(shares) || e != api.OK {
			t.Fatal(x, l, e, shares)
		}
		for i, s := range l {
			if shares[s.Name] != s.Bytes {
				t.Fatal(x, l, shares)
			}
			if i > 0 && (l[i-1].Bytes < s.Bytes || l[i-1].Bytes == s.Bytes && l[i-1].Name >= s.Name) {
				t.Fatal(x, l)
			}
		}
		for file := range x.Files {
			for line := 1; line <= 3; line++ {
				want := plainSpans(x.Size, func(offset int) bool {
					i := slices.IndexFunc(x.Rows, func(row symbol.Row) bool { return row.At > offset })
					if i < 0 {
						i = len(x.Rows)
					}
					return i > 0 && x.Rows[i-1].File == file && x.Rows[i-1].Line == line
				})
				if l, e := symbol.Lines(x, x.Files[file], line); !slices.Equal(l, want) || e != api.OK {
					t.Fatal(x, file, line, l, e, want)
				}
			}
		}
	})
	if deepest < 5 {
		t.Error(deepest)
	}
}

// P2.3
func TestLines(t *testing.T) {
	cases := []struct {
		file string
		line int
		want []symbol.Span
	}{
		{"a.c", 3, []symbol.Span{{1, 10}, {50, 75}}}, // the rows at 50 and 60 touch
		{"b/c.h", 8, []symbol.Span{{10, 20}, {30, 50}}},
		{"a.c", 4, []symbol.Span{{75, 95}}},
		{"b/c.h", 1, []symbol.Span{{95, 100}}}, // the last row
		{"a.c", 5, nil},
		{"b/c.h", api.MaxLine, nil},
	}
	for _, c := range cases {
		if l, e := symbol.Lines(sample(), c.file, c.line); !slices.Equal(l, c.want) || e != api.OK {
			t.Errorf("%s %d: %v %v, not %v", c.file, c.line, l, e, c.want)
		}
	}
	for _, line := range []int{0, -1, api.MaxLine + 1, math.MinInt, math.MaxInt} {
		if l, e := symbol.Lines(sample(), "a.c", line); len(l) > 0 || e != api.ErrRange {
			t.Error(line, l, e)
		}
		for _, file := range []string{"", "a", "a.c ", "c.h", "\x00"} {
			if l, e := symbol.Lines(sample(), file, line); len(l) > 0 || e != api.ErrNone {
				t.Error(file, line, l, e)
			}
		}
	}
	if l, e := symbol.Lines(sample(), "", 1); len(l) > 0 || e != api.ErrNone {
		t.Error(l, e)
	}
	// Unknown lines between equal ones do not touch.
	x := with(func(t *symbol.Table) { t.Rows = []symbol.Row{{0, 0, 1}, {5, -1, 0}, {6, 0, 1}, {7, 1, 1}, {8, 0, 1}} })
	if l, e := symbol.Lines(x, "a.c", 1); !slices.Equal(l, []symbol.Span{{0, 5}, {6, 7}, {8, 100}}) || e != api.OK {
		t.Error(l, e)
	}
}

// P2.3
func TestShares(t *testing.T) {
	want := []symbol.Share{{"main", 38}, {"low", 24}, {"util", 10}, {"lower", 4}, {"same", 2}}
	if l, e := symbol.Shares(sample()); !slices.Equal(l, want) || e != api.OK {
		t.Error(l, e)
	}
	want = []symbol.Share{{"main", 30}, {"low", 10}}
	if l, e := symbol.Shares(example()); !slices.Equal(l, want) || e != api.OK {
		t.Error(l, e)
	}
	// Equal numbers by the bytes of the names; names with none are left out; a call of its own name counts once.
	x := symbol.Table{
		Id: id, Size: symbol.MaxSize, Files: []string{"a"},
		Funcs: []symbol.Func{{"b", 0, 4}, {"ab", 4, 8}, {"B", 8, 12}, {"\x7e", 12, 16}, {"gone", 16, 20}, {"self", 20, 30}, {"most", 100, symbol.MaxSize}},
		Calls: []symbol.Call{{"a", 16, 20, 0, 1}, {"self", 21, 29, 0, 1}, {"self", 22, 23, 0, 1}},
	}
	want = []symbol.Share{{"most", symbol.MaxSize - 100}, {"self", 10}, {"B", 4}, {"a", 4}, {"ab", 4}, {"b", 4}, {"~", 4}}
	if l, e := symbol.Shares(x); !slices.Equal(l, want) || e != api.OK {
		t.Error(l, e)
	}
	if l, e := symbol.Shares(symbol.Table{Id: id, Size: 1}); len(l) > 0 || e != api.OK {
		t.Error(l, e)
	}
}

// P2.3
func TestDiffer(t *testing.T) {
	table := func(funcs ...symbol.Func) symbol.Table {
		return symbol.Table{Id: id, Size: symbol.MaxSize, Files: []string{"a"}, Funcs: funcs}
	}
	calls := table(symbol.Func{Name: "f", From: 0, To: 10})
	calls.Calls = []symbol.Call{{"g", 0, 10, 0, 1}}
	cases := []struct {
		a, b symbol.Table
		want []string
	}{
		{sample(), sample(), nil},
		{table(), table(), nil},
		{table(), table(symbol.Func{Name: "f", From: 3, To: 5}), []string{"+ f 2"}},
		{table(symbol.Func{Name: "f", From: 0, To: symbol.MaxSize}), table(), []string{"- f 4294967296"}},
		{table(symbol.Func{Name: "f", From: 0, To: 10}), table(symbol.Func{Name: "f", From: 20, To: 30}), nil},
		{table(symbol.Func{Name: "f", From: 0, To: 10}), table(symbol.Func{Name: "f", From: 20, To: 31}), []string{"~ f 10 11"}},
		// All functions of a name count, and in order of the names, not of the signs.
		{table(symbol.Func{Name: "f", From: 0, To: 10}, symbol.Func{Name: "f", From: 20, To: 30}), table(symbol.Func{Name: "f", From: 0, To: 20}), nil},
		{sample(), example(), []string{"~ main 58 40", "- util 20"}},
		{example(), sample(), []string{"~ main 40 58", "+ util 20"}},
		{table(symbol.Func{Name: "b", From: 0, To: 1}, symbol.Func{Name: "c", From: 1, To: 2}), table(symbol.Func{Name: "c", From: 0, To: 2}, symbol.Func{Name: "a", From: 2, To: 3}, symbol.Func{Name: "B", From: 3, To: 4}, symbol.Func{Name: "bb", From: 4, To: 5}), []string{"+ B 1", "+ a 1", "- b 1", "+ bb 1", "~ c 1 2"}},
		// Calls are no functions.
		{calls, table(symbol.Func{Name: "f", From: 0, To: 10}), nil},
		{table(), calls, []string{"+ f 10"}},
	}
	for _, c := range cases {
		if l, e := symbol.Differ(c.a, c.b); !slices.Equal(l, c.want) || e != api.OK {
			t.Errorf("%q %v, not %q", l, e, c.want)
		}
	}
}
