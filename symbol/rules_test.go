package symbol_test

// The general rules (Z1 to Z12) where the tests of the promises do not ask for them: Z4 is asked for with the errors of each function, Z10 with Read and ReadText, Z11 with Shares and Differ.

import (
	"fmt"
	"math"
	"slices"
	"strings"
	"sync"
	"testing"

	"inquest/api"
	"inquest/symbol"
)

// everything is what all functions return for these arguments.
func everything(a, b symbol.Table, frames []api.Frame, modules []symbol.Module, tables []symbol.Table, s string, n int) []string {
	var r []string
	add := func(result any, e api.Errno) {
		r = append(r, fmt.Sprintf("%v %v", result, e))
	}
	add(0, symbol.CheckTable(a))
	i, ok := symbol.FuncAt(a, n)
	add(fmt.Sprint(i, ok), 0)
	places, e := symbol.At(a, n)
	add(places, e)
	spans, e := symbol.Lines(a, s, n)
	add(spans, e)
	shares, e := symbol.Shares(a)
	add(shares, e)
	diff, e := symbol.Differ(a, b)
	add(diff, e)
	text, e := symbol.Number(n)
	add(text, e)
	number, long, e := symbol.ReadNumber(s)
	add([]int{number, long}, e)
	text, e = symbol.Write(a)
	add(text, e)
	table, e := symbol.Read(s)
	add(table, e)
	text, e = symbol.Text(a)
	add(text, e)
	table, line, e := symbol.ReadText(s)
	add([]any{table, line}, e)
	add(0, symbol.CheckModules(modules))
	i, ok = symbol.ModuleAt(modules, n)
	add(fmt.Sprint(i, ok), 0)
	resolved, e := symbol.Resolve(frames, modules, tables)
	add(resolved, e)
	missing, e := symbol.Missing(frames, modules, tables)
	add(missing, e)
	return r
}

// Z1 and Z9: every call returns, whatever the numbers and bytes are.
func TestHostile(t *testing.T) {
	numbers := []int{math.MinInt, -1, 0, 1, 99, 201, 1 << 32, 1 << 48, math.MaxInt}
	texts := []string{"", "\x00", "\xff\xfe", "!", "IQT1", "table ", "IQT1" + id + strings.Repeat("\xff", 100), strings.Repeat("\n", 2_000_000), strings.Repeat("\x80", 900_000), word(1_000_001), id, "a.c"}
	for _, n := range numbers {
		for _, m := range numbers {
			for _, s := range texts {
				wild := symbol.Table{Id: s, Size: n, Files: []string{s}, Funcs: []symbol.Func{{s, n, m}, {"f", m, n}}, Rows: []symbol.Row{{n, m, n}, {m, n, m}}, Calls: []symbol.Call{{s, n, m, n, m}, {"f", m, n, m, n}}}
				tame := with(func(t *symbol.Table) {
					t.Funcs[0].From, t.Funcs[0].To = n, m
				})
				rows := with(func(t *symbol.Table) { t.Rows[0] = symbol.Row{At: n, File: m, Line: 1} })
				calls := with(func(t *symbol.Table) { t.Calls[0].From, t.Calls[0].To, t.Calls[0].File = n, m, n })
				frames := []api.Frame{{Func: "f", Addr: n}, {Func: s, Addr: m}}
				modules := []symbol.Module{{"m", id, n, m}, {s, s, m, n}}
				for _, x := range []symbol.Table{wild, tame, rows, calls} {
					symbol.CheckTable(x)
					symbol.FuncAt(x, m)
					symbol.At(x, m)
					symbol.Resolve(frames, modules, []symbol.Table{x})
				}
				symbol.ModuleAt(modules, m)
				symbol.CheckModules(modules[:1])
			}
		}
		for _, s := range texts {
			everything(symbol.Table{Size: n}, symbol.Table{Id: s}, make([]api.Frame, 1000), make([]symbol.Module, 1000), make([]symbol.Table, 1000), s, n)
			everything(sample(), example(), []api.Frame{at(1012)}, loaded(), []symbol.Table{sample()}, s, n)
		}
	}
	large := symbol.Table{Id: id, Size: 1, Funcs: make([]symbol.Func, 1_000_000), Rows: make([]symbol.Row, 1_000_000), Calls: make([]symbol.Call, 1_000_000)}
	everything(large, large, make([]api.Frame, 1_000_000), make([]symbol.Module, 1_000_000), []symbol.Table{large}, "", 0)
}

// spare returns a list with a full capacity behind its length.
func spare[T any](l []T, behind T) []T {
	r := append(slices.Clone(l), behind, behind, behind, behind)
	return r[:len(l)]
}

// spareTable is the sample with spare memory behind its lists.
func spareTable() symbol.Table {
	return with(func(t *symbol.Table) {
		t.Files, t.Funcs, t.Rows, t.Calls = spare(t.Files, "behind"), spare(t.Funcs, symbol.Func{Name: "behind"}), spare(t.Rows, symbol.Row{At: -9}), spare(t.Calls, symbol.Call{Name: "behind"})
	})
}

// whole is all that is in the memory of a table.
func whole(t symbol.Table) string {
	return fmt.Sprint(t.Id, t.Size, t.Files[:cap(t.Files)], t.Funcs[:cap(t.Funcs)], t.Rows[:cap(t.Rows)], t.Calls[:cap(t.Calls)])
}

// Z2: arguments are neither modified nor kept, and what is after a length stays as it is.
func TestArguments(t *testing.T) {
	a, b := spareTable(), spareTable()
	b.Id = id
	frames := spare([]api.Frame{at(1012), at(1150), at(-1), at(1015)}, at(-9))
	modules := spare(loaded(), symbol.Module{Name: "behind"})
	tables := spare([]symbol.Table{a, b}, symbol.Table{Id: "behind"})
	state := func() string {
		return whole(a) + whole(b) + fmt.Sprint(frames[:cap(frames)], modules[:cap(modules)], tables[:cap(tables)])
	}
	before := state()
	text, _ := symbol.Text(a)
	bytes, _ := symbol.Write(a)
	for _, s := range []string{text, bytes, "a.c", ""} {
		for _, n := range []int{0, 3, 15} {
			one := everything(a, b, frames, modules, tables, s, n)
			if after := state(); after != before {
				t.Fatalf("%s, not %s", after, before)
			}
			if again := everything(a, b, frames, modules, tables, s, n); !slices.Equal(one, again) {
				t.Errorf("%v, then %v", one, again)
			}
		}
	}
}

// Z2: results are new memory.
func TestResults(t *testing.T) {
	frames := []api.Frame{at(-1), at(1150)}
	l, e := symbol.Resolve(frames, loaded(), nil)
	if len(l) != 2 || e != api.OK {
		t.Fatal(l, e)
	}
	l[0].Func, l[1].Func = "changed", "changed"
	if frames[0].Func != "f" || frames[1].Func != "f" {
		t.Error("a result shares memory with an argument")
	}
	bytes, _ := symbol.Write(sample())
	text, _ := symbol.Text(sample())
	for range 2 {
		x, e := symbol.Read(bytes)
		y, _, f := symbol.ReadText(text)
		if !equal(x, sample()) || !equal(y, sample()) || e != api.OK || f != api.OK {
			t.Fatal(x, e, y, f)
		}
		clear(x.Files[:cap(x.Files)])
		clear(x.Calls[:cap(x.Calls)])
		clear(y.Rows[:cap(y.Rows)])
		clear(y.Funcs[:cap(y.Funcs)])
	}
	a, _ := symbol.At(sample(), 15)
	b, _ := symbol.At(sample(), 15)
	clear(a)
	if b[0].Func != "same" {
		t.Error("two results share memory")
	}
}

// Z5: empty and nil lists are the same.
func TestEmpty(t *testing.T) {
	none := symbol.Table{Id: id, Size: 9}
	empty := symbol.Table{Id: id, Size: 9, Files: []string{}, Funcs: []symbol.Func{}, Rows: []symbol.Row{}, Calls: []symbol.Call{}}
	want := everything(none, none, nil, nil, nil, "", 1)
	if got := everything(empty, empty, []api.Frame{}, []symbol.Module{}, []symbol.Table{}, "", 1); !slices.Equal(got, want) {
		t.Errorf("%v, not %v", got, want)
	}
}

// Z7: goroutines get the same results, however the map of names lies.
func TestTogether(t *testing.T) {
	a, b, frames, tables := sample(), largest(), []api.Frame{at(1012), at(1015)}, []symbol.Table{sample(), example()}
	s, _ := symbol.Write(a)
	want := everything(a, b, frames, loaded(), tables, s, 15)
	var group sync.WaitGroup
	for range 8 {
		group.Go(func() {
			for range 5 {
				if got := everything(a, b, frames, loaded(), tables, s, 15); !slices.Equal(got, want) {
					t.Error("other results")
				}
			}
		})
	}
	group.Wait()
}
