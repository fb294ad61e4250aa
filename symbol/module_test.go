package symbol_test

import (
	"math"
	"math/rand"
	"slices"
	"strings"
	"testing"

	"inquest/api"
	"inquest/symbol"
)

const third = "00000000000000ff"

// loaded has two modules of one table, one of no table, and a gap.
func loaded() []symbol.Module {
	return []symbol.Module{{"app", other, 1000, 1100}, {"lib", third, 1100, 1200}, {"app2", other, 2000, 2300}}
}

// badModules has modules for each error of CheckModules.
func badModules() []struct {
	modules []symbol.Module
	want    api.Errno
} {
	one := func(name, id string, from, to int) []symbol.Module { return []symbol.Module{{name, id, from, to}} }
	return []struct {
		modules []symbol.Module
		want    api.Errno
	}{
		{make([]symbol.Module, 101), api.ErrLarge}, {make([]symbol.Module, 100), api.ErrForm},
		{one("", id, 0, 1), api.ErrForm}, {one(word(201), id, 0, 1), api.ErrLarge}, {one("a b", id, 0, 1), api.ErrByte}, {one("a!b", id, 0, 1), api.ErrByte},
		{one("a", "", 0, 1), api.ErrForm}, {one("a", id[1:], 0, 1), api.ErrForm}, {one("a", id[1:]+"F", 0, 1), api.ErrForm}, {one("a", id+"0", 0, 1), api.ErrForm},
		{one("a", id, -1, 1), api.ErrRange}, {one("a", id, 1<<48, 1<<48+1), api.ErrRange}, {one("a", id, 5, 5), api.ErrRange}, {one("a", id, 5, 4), api.ErrRange}, {one("a", id, 0, 1<<48+1), api.ErrRange},
		{one("a", id, math.MaxInt, math.MinInt), api.ErrRange}, {one("a", id, math.MinInt, math.MaxInt), api.ErrRange}, {one("a", id, 0, math.MaxInt), api.ErrRange},
		{[]symbol.Module{{"a", id, 0, 10}, {"b", id, 9, 20}}, api.ErrOrder}, {[]symbol.Module{{"a", id, 10, 20}, {"b", id, 0, 10}}, api.ErrOrder}, {[]symbol.Module{{"a", id, 0, 10}, {"b", id, 20, 30}, {"c", id, 15, 18}}, api.ErrOrder},
		// The order of several errors.
		{one("!"+word(200), "", -1, 0), api.ErrLarge}, {one("!", "", -1, 0), api.ErrByte}, {one("a", "", -1, 0), api.ErrForm}, {one("", "", -1, 0), api.ErrForm},
		{[]symbol.Module{{"a", id, 10, 20}, {"b", id, 0, 0}}, api.ErrRange}, {[]symbol.Module{{"a", id, 10, 20}, {"b", id, 0, 1}, {"!", id, 0, 1}}, api.ErrOrder}, {append(one("!", id, 0, 1), make([]symbol.Module, 100)...), api.ErrLarge},
	}
}

// P2.7
func TestCheckModules(t *testing.T) {
	var most []symbol.Module
	for i := range 100 {
		most = append(most, symbol.Module{Name: "m", Id: id, From: i, To: i + 1})
	}
	for i, l := range [][]symbol.Module{nil, {}, loaded(), most, {{"a", id, 0, 1 << 48}}, {{"a", id, api.MaxAddr, api.MaxAddr + 1}}, {{word(200), third, 0, 1}, {"~", id, 1, 2}}} {
		if e := symbol.CheckModules(l); e != api.OK {
			t.Error(i, e)
		}
	}
	for _, c := range badModules() {
		if e := symbol.CheckModules(c.modules); e != c.want {
			t.Errorf("%.80v: %v, not %v", c.modules, e, c.want)
		}
	}
}

// P2.7
func TestModuleAt(t *testing.T) {
	for addr, want := range map[int]int{1000: 0, 1099: 0, 1100: 1, 1199: 1, 2000: 2, 2299: 2} {
		if i, ok := symbol.ModuleAt(loaded(), addr); i != want || !ok {
			t.Error(addr, i, ok)
		}
	}
	for _, addr := range []int{-1, 0, 999, 1200, 1999, 2300, math.MinInt, math.MaxInt} {
		if i, ok := symbol.ModuleAt(loaded(), addr); i != 0 || ok {
			t.Error(addr, i, ok)
		}
	}
	// It asks for no errors: the first of modules in any order.
	wild := []symbol.Module{{"", "", 30, 20}, {"", "", 10, 20}, {"", "", 0, 15}, {"", "", -5, math.MaxInt}}
	for addr, want := range map[int]int{25: 3, 12: 1, 5: 2, -5: 3, -1: 3} {
		if i, ok := symbol.ModuleAt(wild, addr); i != want || !ok {
			t.Error(addr, i, ok)
		}
	}
}

// at is a frame of which the address is known.
func at(addr int) api.Frame { return api.Frame{Func: "f", Addr: addr} }

// found is a frame of the module app of the sample.
func found(name, file string, line, addr int) api.Frame {
	return api.Frame{Module: "app", Func: name, File: file, Line: line, Addr: addr}
}

// P2.8
func TestResolve(t *testing.T) {
	all := api.Frame{Module: "old", Func: "old", File: "old", Line: 7, Addr: 1025, Own: true}
	cases := []struct {
		name         string
		frames, want []api.Frame
	}{
		{"none", nil, nil},
		{"first", []api.Frame{at(1011)}, []api.Frame{found("low", "b/c.h", 8, 1011), found("main", "a.c", 5, 1011)}},
		{"first of a call", []api.Frame{at(1010)}, []api.Frame{found("low", "b/c.h", 8, 1010), found("main", "a.c", 5, 1010)}},
		{"not the first", []api.Frame{at(-1), at(1010)}, []api.Frame{at(-1), found("main", "a.c", 3, 1010)}},
		{"a return to the next function", []api.Frame{at(-1), at(1070)}, []api.Frame{at(-1), found("low", "a.c", 3, 1070), found("util", "a.c", 2, 1070)}},
		{"a return behind a function", []api.Frame{at(-1), at(1090)}, []api.Frame{at(-1), found("main", "a.c", 4, 1090)}},
		{"a return to the beginning of a function", []api.Frame{at(-1), at(1002)}, []api.Frame{at(-1), at(1002)}},
		{"behind a function", []api.Frame{at(1090)}, []api.Frame{at(1090)}},
		{"in no function", []api.Frame{at(1001), at(1045)}, []api.Frame{at(1001), at(1045)}},
		{"in no module", []api.Frame{at(0), at(999), at(1200), at(api.MaxAddr)}, []api.Frame{at(0), at(999), at(1200), at(api.MaxAddr)}},
		{"in a module without a table", []api.Frame{at(1100), at(1150)}, []api.Frame{at(1100), at(1150)}},
		{"behind the size of the table", []api.Frame{at(2100), at(2299)}, []api.Frame{at(2100), at(2299)}},
		{"a return behind the size of the table", []api.Frame{at(-1), at(2100)}, []api.Frame{at(-1), at(2100)}},
		{"all fields", []api.Frame{all, all}, []api.Frame{{Module: "app", Func: "main", Addr: 1025, Own: true}, {Module: "app", Func: "main", Addr: 1025, Own: true}}},
		{"two modules of a table", []api.Frame{{Func: "x", Addr: 2004}, at(1005)}, []api.Frame{{Module: "app2", Func: "main", File: "a.c", Line: 3, Addr: 2004}, found("main", "a.c", 3, 1005)}},
		{"a frame without an address in its place", []api.Frame{at(1004), {Func: "g", File: "x", Line: 3, Addr: -1, Own: true}, at(1005)}, []api.Frame{found("main", "a.c", 3, 1004), {Func: "g", File: "x", Line: 3, Addr: -1, Own: true}, found("main", "a.c", 3, 1005)}},
	}
	for _, c := range cases {
		if l, e := symbol.Resolve(c.frames, loaded(), []symbol.Table{example(), sample()}); !slices.Equal(l, c.want) || e != api.OK {
			t.Errorf("%s: %v %v, not %v", c.name, l, e, c.want)
		}
		if l, e := symbol.Resolve(c.frames, loaded(), nil); !slices.Equal(l, c.frames) || e != api.OK {
			t.Errorf("%s, without tables: %v %v", c.name, l, e)
		}
		if l, e := symbol.Resolve(c.frames, nil, []symbol.Table{sample()}); !slices.Equal(l, c.frames) || e != api.OK {
			t.Errorf("%s, without modules: %v %v", c.name, l, e)
		}
	}
	// An offset of 0 stays one, where a call returns to, too.
	zero := []symbol.Module{{"app", id, 0, 100}, {"next", id, 100, 200}}
	l, e := symbol.Resolve([]api.Frame{at(0), at(0), at(100), at(1)}, zero, []symbol.Table{example()})
	next := api.Frame{Module: "next", Func: "main", File: "a.c", Line: 3, Addr: 100}
	if want := []api.Frame{found("main", "a.c", 3, 0), found("main", "a.c", 3, 0), next, found("main", "a.c", 3, 1)}; !slices.Equal(l, want) || e != api.OK {
		t.Error(l, e)
	}
}

// P2.8: the errors of Resolve and Missing, and their order.
func TestResolveErrors(t *testing.T) {
	badFrames := []struct {
		frames []api.Frame
		want   api.Errno
	}{
		{nil, api.OK}, {make([]api.Frame, 201), api.ErrLarge}, {[]api.Frame{at(1), {}}, api.ErrForm}, {[]api.Frame{{Func: "a b", Addr: -1}, {}}, api.ErrByte}, {[]api.Frame{at(-2)}, api.ErrRange}, {[]api.Frame{{Func: word(201)}}, api.ErrLarge},
	}
	badLists := badModules()
	badLists = append(badLists, badLists[0])
	badLists[0].modules, badLists[0].want = loaded(), api.OK
	type list struct {
		tables []symbol.Table
		want   api.Errno
	}
	tables := []list{
		{make([]symbol.Table, 101), api.ErrLarge}, {make([]symbol.Table, 100), api.ErrForm},
		{[]symbol.Table{sample(), example(), sample()}, api.ErrTwice}, {[]symbol.Table{sample(), {Id: other}}, api.ErrRange}, {[]symbol.Table{sample(), {Id: other, Size: 1}, {}}, api.ErrTwice}, {[]symbol.Table{sample(), {}, sample()}, api.ErrForm},
	}
	for _, bad := range badTables() {
		tables = append(tables, list{[]symbol.Table{example(), bad.table}, bad.want})
	}
	for _, f := range badFrames {
		for _, m := range badLists {
			for _, x := range tables {
				want := f.want
				if want == api.OK {
					want = m.want
				}
				if want == api.OK {
					want = x.want
				}
				if l, e := symbol.Resolve(f.frames, m.modules, x.tables); len(l) > 0 || e != want {
					t.Errorf("%.50v %.50v %.50v: %v %v, not %v", f.frames, m.modules, x.tables, l, e, want)
				}
				if l, e := symbol.Missing(f.frames, m.modules, x.tables); len(l) > 0 || e != want {
					t.Errorf("%.50v %.50v %.50v: Missing %v %v, not %v", f.frames, m.modules, x.tables, l, e, want)
				}
			}
		}
	}
}

// P2.8: the result has at most MaxFrames frames; Missing does not ask for that.
func TestResolveMany(t *testing.T) {
	tables := []symbol.Table{sample()}
	for n, want := range map[int]api.Errno{40: api.OK, 41: api.ErrLarge, 200: api.ErrLarge} {
		l := slices.Repeat([]api.Frame{at(1015), at(1015)}, n)[:n] // five places each
		r, e := symbol.Resolve(l, loaded(), tables)
		if e != want || want == api.OK && len(r) != 200 || want != api.OK && len(r) > 0 {
			t.Error(n, len(r), e)
		}
		if ids, e := symbol.Missing(append(l[:n-1:n-1], at(1150)), loaded(), tables); !slices.Equal(ids, []string{third}) || e != api.OK {
			t.Error(n, ids, e)
		}
	}
	if r, e := symbol.Resolve(slices.Repeat([]api.Frame{at(-1)}, 200), loaded(), tables); len(r) != 200 || e != api.OK {
		t.Error(len(r), e)
	}
	// A hundred of the largest tables.
	tables = slices.Repeat([]symbol.Table{largest()}, 100)
	modules := make([]symbol.Module, 100)
	for i := range tables {
		tables[i].Id = id[2:] + string([]byte{byte('0' + i/10), byte('0' + i%10)})
		modules[i] = symbol.Module{Name: "m", Id: tables[i].Id, From: i * symbol.MaxSize, To: (i + 1) * symbol.MaxSize}
	}
	l := []api.Frame{at(100*symbol.MaxSize - 2)}
	if r, e := symbol.Resolve(l, modules, tables); len(r) != 2 || r[0].Line != api.MaxLine || e != api.OK {
		t.Error(r, e)
	}
}

// P2.8
func TestMissing(t *testing.T) {
	modules := append(loaded(), symbol.Module{Name: "z", Id: id, From: 3000, To: 3001})
	frames := []api.Frame{at(-1), at(3000), at(1199), at(999), at(2000), at(1000), at(3000), at(1100), at(3001)}
	cases := []struct {
		tables []symbol.Table
		want   []string
	}{
		{nil, []string{id, third, other}},
		{[]symbol.Table{sample()}, []string{id, third}},
		{[]symbol.Table{example(), sample()}, []string{third}},
		{[]symbol.Table{{Id: third, Size: 1}}, []string{id, other}},
		{[]symbol.Table{{Id: third, Size: 1}, example(), sample()}, nil},
	}
	for _, c := range cases {
		if l, e := symbol.Missing(frames, modules, c.tables); !slices.Equal(l, c.want) || e != api.OK {
			t.Error(l, e, c.want)
		}
	}
	// The address of the frame counts, not the one before it.
	for _, l := range [][]api.Frame{nil, {at(-1)}, {at(1200)}, {at(-1), at(2300)}, {at(-1), at(1200)}} {
		if ids, e := symbol.Missing(l, modules, nil); len(ids) > 0 || e != api.OK {
			t.Error(l, ids, e)
		}
	}
	if ids, e := symbol.Missing([]api.Frame{at(-1), at(1100)}, modules, nil); !slices.Equal(ids, []string{third}) || e != api.OK {
		t.Error(ids, e)
	}
}

// P2.8: many frames, tables and modules, against At.
func TestResolveAgain(t *testing.T) {
	var tables []symbol.Table
	randomTables(t, 8, func(r *rand.Rand, x symbol.Table) {
		x.Id = strings.Repeat("0", 15) + string(rune('0'+len(tables)))
		tables = append(tables, x)
		if len(tables) < 4 {
			return
		}
		var modules []symbol.Module
		for from := r.Intn(20); len(modules) < 6; from += r.Intn(10) {
			m := symbol.Module{Name: string(rune('a' + len(modules))), Id: strings.Repeat("0", 15) + string(rune('0'+r.Intn(5))), From: from, To: from + 1 + r.Intn(40)}
			modules = append(modules, m)
			from = m.To
		}
		var frames, want []api.Frame
		for i := range r.Intn(10) {
			f := api.Frame{Func: "f", Addr: r.Intn(300) - 1, Own: r.Intn(2) > 0}
			frames = append(frames, f)
			want = append(want, plainFrames(f, i, modules, tables)...)
		}
		if l, e := symbol.Resolve(frames, modules, tables); !slices.Equal(l, want) || e != api.OK {
			t.Fatal(frames, modules, tables, l, e, want)
		}
		tables = nil
	})
}

// plainFrames is what P2.8 says of one frame.
func plainFrames(f api.Frame, i int, modules []symbol.Module, tables []symbol.Table) []api.Frame {
	var l []api.Frame
	for _, m := range modules {
		for _, x := range tables {
			if f.Addr == -1 || !has(m.From, m.To, f.Addr) || m.Id != x.Id {
				continue
			}
			offset := f.Addr - m.From
			if i > 0 && offset-1 >= 0 {
				offset--
			}
			places, _ := symbol.At(x, offset)
			for _, p := range places {
				l = append(l, api.Frame{Module: m.Name, Func: p.Func, File: p.File, Line: p.Line, Addr: f.Addr, Own: f.Own})
			}
		}
	}
	if len(l) == 0 {
		l = []api.Frame{f}
	}
	return l
}
