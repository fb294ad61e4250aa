package symbol_test

import (
	"math"
	"math/rand"
	"slices"
	"strconv"
	"strings"
	"testing"

	"inquest/api"
	"inquest/stack"
	"inquest/symbol"
)

// P2.1
func TestGoodTables(t *testing.T) {
	good := []symbol.Table{
		example(), sample(), largest(),
		{Id: id, Size: 1},
		{Id: "aaaaaaaaaaffffff", Size: symbol.MaxSize},
		{Id: "0000000000000000", Size: 1, Files: []string{"!"}, Funcs: []symbol.Func{{"~", 0, 1}}, Rows: []symbol.Row{{0, 0, api.MaxLine}}, Calls: []symbol.Call{{"$", 0, 1, 0, api.MaxLine}}},
		with(func(t *symbol.Table) { t.Funcs = []symbol.Func{{word(200), 0, 50}, {"g", 50, 100}} }),
		with(func(t *symbol.Table) { t.Files[1] = word(200) }),
		with(func(t *symbol.Table) { t.Rows = []symbol.Row{{0, -1, 0}, {1, -1, 0}, {99, 1, 1}} }),
		with(func(t *symbol.Table) { t.Calls = slices.Repeat(t.Calls[:1], 10) }),
	}
	for i, x := range good {
		if e := symbol.CheckTable(x); e != api.OK {
			t.Error(i, e)
		}
	}
}

// P2.1: what is wrong with a table as such.
func TestTableErrors(t *testing.T) {
	for _, s := range []string{"", id[1:], id + "0", id[1:] + "g", id[1:] + "A", id[1:] + "-", " " + id[1:], id[1:] + "\x00", id[1:] + "\xff", id[2:] + "\xc3\xa9", id + id} {
		if e := symbol.CheckTable(symbol.Table{Id: s, Size: 0}); e != api.ErrForm {
			t.Errorf("id %q: %v", s, e)
		}
	}
	for b := range 256 {
		s := id[1:] + string([]byte{byte(b)})
		want := api.ErrForm
		if b >= '0' && b <= '9' || b >= 'a' && b <= 'f' {
			want = api.OK
		}
		if e := symbol.CheckTable(symbol.Table{Id: s, Size: 1}); e != want {
			t.Errorf("id %q: %v", s, e)
		}
	}
	for _, n := range []int{0, -1, symbol.MaxSize + 1, math.MinInt, math.MaxInt} {
		if e := symbol.CheckTable(symbol.Table{Id: id, Size: n, Files: make([]string, 201)}); e != api.ErrRange {
			t.Error(n, e)
		}
	}
	for _, bad := range badTables() {
		if e := symbol.CheckTable(bad.table); e != bad.want {
			t.Errorf("%s: %v, not %v", bad.name, e, bad.want)
		}
	}
}

// P2.1
func TestFileErrors(t *testing.T) {
	many := func(n int) (l []string) {
		for i := range n {
			l = append(l, strconv.Itoa(i))
		}
		return l
	}
	cases := []struct {
		files []string
		want  api.Errno
	}{
		{many(200), api.OK}, {many(201), api.ErrLarge}, {append([]string{""}, many(200)...), api.ErrLarge},
		{[]string{"a", ""}, api.ErrForm}, {[]string{word(201)}, api.ErrLarge}, {[]string{"a b"}, api.ErrByte},
		{[]string{"a", "b", "a"}, api.ErrTwice}, {[]string{"a!b", "a!"}, api.OK},
		{[]string{" " + word(200)}, api.ErrLarge}, {[]string{"a", "a", ""}, api.ErrTwice}, {[]string{"", "a", "a"}, api.ErrForm}, {[]string{" ", " "}, api.ErrByte},
	}
	for _, c := range cases {
		x := symbol.Table{Id: id, Size: 1, Files: c.files, Funcs: make([]symbol.Func, 1)}
		want := c.want
		if want == api.OK {
			want = api.ErrForm // of the function
		}
		if e := symbol.CheckTable(x); e != want {
			t.Errorf("%.50q: %v, not %v", c.files, e, want)
		}
		x.Funcs = nil
		if e := symbol.CheckTable(x); e != c.want {
			t.Errorf("%.50q: %v, not %v", c.files, e, c.want)
		}
	}
}

// P2.1: words are those of stack.CheckFrame, byte for byte.
func TestWords(t *testing.T) {
	for b := range 256 {
		s := "a" + string([]byte{byte(b)}) + "z"
		want := stack.CheckFrame(api.Frame{Func: s, Addr: -1})
		if e := symbol.CheckTable(symbol.Table{Id: id, Size: 1, Files: []string{s}}); e != want {
			t.Errorf("file %q: %v, not %v", s, e, want)
		}
		if b == '!' {
			want = api.ErrByte
		}
		f := symbol.Func{Name: s, From: 0, To: 1}
		if e := symbol.CheckTable(symbol.Table{Id: id, Size: 1, Funcs: []symbol.Func{f}}); e != want {
			t.Errorf("function %q: %v, not %v", s, e, want)
		}
		x := symbol.Table{Id: id, Size: 1, Files: []string{"a"}, Funcs: []symbol.Func{{"f", 0, 1}}, Calls: []symbol.Call{{s, 0, 1, 0, 1}}}
		if e := symbol.CheckTable(x); e != want {
			t.Errorf("call %q: %v, not %v", s, e, want)
		}
		if e := symbol.CheckModules([]symbol.Module{{s, id, 0, 1}}); e != want {
			t.Errorf("module %q: %v, not %v", s, e, want)
		}
	}
}

// P2.1
func TestFuncErrors(t *testing.T) {
	one := func(name string, from, to int) []symbol.Func { return []symbol.Func{{name, from, to}} }
	cases := []struct {
		funcs []symbol.Func
		want  api.Errno
	}{
		{one("f", 0, 100), api.OK}, {one("f", 99, 100), api.OK}, {one("f", 0, 1), api.OK},
		{one("", 0, 1), api.ErrForm}, {one(word(201), 0, 1), api.ErrLarge}, {one("a b", 0, 1), api.ErrByte}, {one("!", 0, 1), api.ErrByte}, {one("!"+word(200), 0, 1), api.ErrLarge},
		{one("f", -1, 1), api.ErrRange}, {one("f", 100, 101), api.ErrRange}, {one("f", 100, 100), api.ErrRange}, {one("f", 5, 5), api.ErrRange}, {one("f", 5, 4), api.ErrRange}, {one("f", 0, 101), api.ErrRange},
		{one("f", 0, 0), api.ErrRange}, {one("f", math.MaxInt, math.MinInt), api.ErrRange}, {one("f", math.MinInt, math.MaxInt), api.ErrRange}, {one("f", 0, math.MaxInt), api.ErrRange}, {one("f", 0, math.MinInt), api.ErrRange},
		{[]symbol.Func{{"f", 0, 10}, {"f", 10, 20}}, api.OK},
		{[]symbol.Func{{"f", 0, 10}, {"g", 9, 20}}, api.ErrOrder}, {[]symbol.Func{{"f", 10, 20}, {"g", 0, 10}}, api.ErrOrder}, {[]symbol.Func{{"f", 0, 10}, {"f", 0, 10}}, api.ErrOrder},
		{[]symbol.Func{{"f", 0, 10}, {"g", 20, 30}, {"h", 29, 40}}, api.ErrOrder},
		// The order of several errors.
		{one("", -1, 1), api.ErrForm}, {[]symbol.Func{{"f", 5, 10}, {"", 0, 0}}, api.ErrForm}, {[]symbol.Func{{"f", 5, 10}, {"g", 0, 0}}, api.ErrRange},
		{[]symbol.Func{{"f", 5, 10}, {"g", 0, 1}, {"", 0, 0}}, api.ErrOrder}, {make([]symbol.Func, 1001), api.ErrLarge}, {make([]symbol.Func, 1000), api.ErrForm},
	}
	for _, c := range cases {
		x := symbol.Table{Id: id, Size: 100, Funcs: c.funcs, Rows: []symbol.Row{{At: -1}}}
		want := c.want
		if want == api.OK {
			want = api.ErrRange // of the row
		}
		if e := symbol.CheckTable(x); e != want {
			t.Errorf("%.50v: %v, not %v", c.funcs, e, want)
		}
		x.Rows = nil
		if e := symbol.CheckTable(x); e != c.want {
			t.Errorf("%.50v: %v, not %v", c.funcs, e, c.want)
		}
	}
}

// P2.1
func TestRowErrors(t *testing.T) {
	one := func(at, file, line int) []symbol.Row { return []symbol.Row{{at, file, line}} }
	cases := []struct {
		rows []symbol.Row
		want api.Errno
	}{
		{one(0, 0, 1), api.OK}, {one(99, 1, api.MaxLine), api.OK}, {one(0, -1, 0), api.OK},
		{one(-1, 0, 1), api.ErrRange}, {one(100, 0, 1), api.ErrRange}, {one(0, -2, 0), api.ErrRange}, {one(0, 2, 1), api.ErrRange}, {one(0, 0, -1), api.ErrRange}, {one(0, 0, api.MaxLine+1), api.ErrRange},
		{one(math.MinInt, 0, 1), api.ErrRange}, {one(math.MaxInt, 0, 1), api.ErrRange}, {one(0, math.MaxInt, 1), api.ErrRange}, {one(0, math.MinInt, 1), api.ErrRange}, {one(0, 0, math.MaxInt), api.ErrRange}, {one(0, 0, math.MinInt), api.ErrRange},
		{one(0, 0, 0), api.ErrForm}, {one(0, -1, 1), api.ErrForm},
		{[]symbol.Row{{0, 0, 1}, {0, 0, 1}}, api.ErrOrder}, {[]symbol.Row{{5, 0, 1}, {4, 0, 1}}, api.ErrOrder}, {[]symbol.Row{{5, 0, 1}, {6, 0, 1}, {5, 1, 1}}, api.ErrOrder}, {[]symbol.Row{{5, 0, 1}, {6, 0, 1}}, api.OK},
		// The order of several errors.
		{one(-1, 0, 0), api.ErrRange}, {[]symbol.Row{{5, 0, 1}, {4, 0, 0}}, api.ErrForm}, {[]symbol.Row{{5, 0, 1}, {4, 0, -1}}, api.ErrRange}, {[]symbol.Row{{5, 0, 1}, {4, 0, 1}, {0, 0, 0}}, api.ErrOrder},
		{make([]symbol.Row, 5001), api.ErrLarge}, {make([]symbol.Row, 5000), api.ErrForm},
	}
	for _, c := range cases {
		x := symbol.Table{Id: id, Size: 100, Files: []string{"a", "b"}, Rows: c.rows, Calls: make([]symbol.Call, 1001)}
		want := c.want
		if want == api.OK {
			want = api.ErrLarge // of the calls
		}
		if e := symbol.CheckTable(x); e != want {
			t.Errorf("%.50v: %v, not %v", c.rows, e, want)
		}
		x.Calls = nil
		if e := symbol.CheckTable(x); e != c.want {
			t.Errorf("%.50v: %v, not %v", c.rows, e, c.want)
		}
	}
	if e := symbol.CheckTable(symbol.Table{Id: id, Size: 1, Rows: one(0, 0, 1)}); e != api.ErrRange {
		t.Error("a row of no file:", e)
	}
}

// P2.1
func TestCallErrors(t *testing.T) {
	call := func(from, to int) symbol.Call { return symbol.Call{Name: "c", From: from, To: to, File: 0, Line: 1} }
	cases := []struct {
		calls []symbol.Call
		want  api.Errno
	}{
		{[]symbol.Call{call(10, 50)}, api.OK}, {[]symbol.Call{call(10, 11)}, api.OK}, {[]symbol.Call{call(50, 60)}, api.OK}, {[]symbol.Call{{"c", 10, 11, 1, api.MaxLine}}, api.OK},
		{[]symbol.Call{{"", 10, 11, 0, 1}}, api.ErrForm}, {[]symbol.Call{{"a!b", 10, 11, 0, 1}}, api.ErrByte}, {[]symbol.Call{{word(201), 10, 11, 0, 1}}, api.ErrLarge},
		{[]symbol.Call{call(-1, 11)}, api.ErrRange}, {[]symbol.Call{call(100, 101)}, api.ErrRange}, {[]symbol.Call{call(10, 10)}, api.ErrRange}, {[]symbol.Call{call(10, 9)}, api.ErrRange}, {[]symbol.Call{call(10, 101)}, api.ErrRange},
		{[]symbol.Call{call(math.MaxInt, math.MinInt)}, api.ErrRange}, {[]symbol.Call{call(10, math.MaxInt)}, api.ErrRange}, {[]symbol.Call{call(math.MinInt, 11)}, api.ErrRange},
		{[]symbol.Call{{"c", 10, 11, -1, 1}}, api.ErrRange}, {[]symbol.Call{{"c", 10, 11, -1, 0}}, api.ErrRange}, {[]symbol.Call{{"c", 10, 11, 2, 1}}, api.ErrRange}, {[]symbol.Call{{"c", 10, 11, 0, 0}}, api.ErrRange}, {[]symbol.Call{{"c", 10, 11, 0, api.MaxLine + 1}}, api.ErrRange},
		{[]symbol.Call{call(20, 30), call(10, 15)}, api.ErrOrder}, {[]symbol.Call{call(20, 30), call(20, 31)}, api.ErrOrder}, {[]symbol.Call{call(20, 30), call(20, 30)}, api.OK}, {[]symbol.Call{call(20, 30), call(20, 29)}, api.OK},
		// No function has all of them.
		{[]symbol.Call{call(9, 11)}, api.ErrState}, {[]symbol.Call{call(0, 1)}, api.ErrState}, {[]symbol.Call{call(49, 51)}, api.ErrState}, {[]symbol.Call{call(10, 60)}, api.ErrState}, {[]symbol.Call{call(59, 61)}, api.ErrState}, {[]symbol.Call{call(60, 61)}, api.ErrState}, {[]symbol.Call{call(0, 100)}, api.ErrState},
		// An earlier one has some of them.
		{[]symbol.Call{call(20, 30), call(29, 31)}, api.ErrState}, {[]symbol.Call{call(20, 30), call(30, 31)}, api.OK}, {[]symbol.Call{call(20, 30), call(22, 24), call(23, 25)}, api.ErrState},
		{[]symbol.Call{call(20, 30), call(22, 24), call(25, 31)}, api.ErrState}, {[]symbol.Call{call(20, 30), call(22, 24), call(24, 30)}, api.OK}, {[]symbol.Call{call(20, 30), call(22, 24), call(30, 40), call(32, 41)}, api.ErrState},
		// Calls within calls.
		{slices.Repeat([]symbol.Call{call(20, 30)}, 10), api.OK}, {slices.Repeat([]symbol.Call{call(20, 30)}, 11), api.ErrDeep},
		{append(slices.Repeat([]symbol.Call{call(20, 30)}, 10), call(29, 30)), api.ErrDeep}, {append(slices.Repeat([]symbol.Call{call(20, 30)}, 10), call(30, 31)), api.OK},
		{slices.Concat(slices.Repeat([]symbol.Call{call(20, 30)}, 9), []symbol.Call{call(20, 21), call(21, 22), call(22, 30)}), api.OK},
		{slices.Concat(slices.Repeat([]symbol.Call{call(20, 30)}, 9), []symbol.Call{call(20, 22), call(21, 22)}), api.ErrDeep},
		// The order of several errors.
		{[]symbol.Call{{"", -1, 11, 0, 1}}, api.ErrForm}, {[]symbol.Call{call(20, 30), {"", 10, 11, 0, 1}}, api.ErrForm}, {[]symbol.Call{call(20, 30), call(10, 101)}, api.ErrRange}, {[]symbol.Call{call(20, 30), call(5, 25)}, api.ErrOrder},
		{append(slices.Repeat([]symbol.Call{call(20, 30)}, 10), call(29, 31)), api.ErrState}, {append(slices.Repeat([]symbol.Call{call(20, 30)}, 11), symbol.Call{}), api.ErrDeep}, {[]symbol.Call{call(9, 11), {}}, api.ErrState},
		{make([]symbol.Call, 1001), api.ErrLarge}, {make([]symbol.Call, 1000), api.ErrForm},
	}
	for _, c := range cases {
		x := symbol.Table{Id: id, Size: 100, Files: []string{"a", "b"}, Funcs: []symbol.Func{{"f", 10, 50}, {"g", 50, 60}, {"h", 61, 70}}, Calls: c.calls}
		if e := symbol.CheckTable(x); e != c.want {
			t.Errorf("%.200v: %v, not %v", c.calls, e, c.want)
		}
	}
}

// plainCalls is what P2.1 says of calls, offset by offset, where names, files and lines are right.
func plainCalls(x symbol.Table) api.Errno {
	for i, c := range x.Calls {
		if c.From < 0 || c.From > x.Size-1 || c.To < c.From+1 || c.To > x.Size {
			return api.ErrRange
		}
		if i > 0 && (c.From < x.Calls[i-1].From || c.From == x.Calls[i-1].From && c.To > x.Calls[i-1].To) {
			return api.ErrOrder
		}
		count := func(from, to int) (n int) {
			for offset := c.From; offset < c.To; offset++ {
				if has(from, to, offset) {
					n++
				}
			}
			return n
		}
		long, inside, partly, deep := c.To-c.From, false, false, 0
		for _, f := range x.Funcs {
			inside = inside || count(f.From, f.To) == long
		}
		for _, d := range x.Calls[:i] {
			switch count(d.From, d.To) {
			case 0:
			case long:
				deep++
			default:
				partly = true
			}
		}
		if !inside || partly {
			return api.ErrState
		}
		if deep >= symbol.MaxDeep {
			return api.ErrDeep
		}
	}
	return api.OK
}

// P2.1: calls, against a plain reading.
func TestCallsAgain(t *testing.T) {
	r := rand.New(rand.NewSource(1))
	seen := map[api.Errno]int{}
	for range 40_000 {
		x := randomTable(r)
		if len(x.Files) == 0 {
			continue
		}
		for range r.Intn(4) {
			from := r.Intn(x.Size+1) - r.Intn(2)
			c := symbol.Call{Name: "c", From: from, To: from + r.Intn(8), Line: 1}
			if len(x.Calls) > 0 && r.Intn(3) > 0 {
				c = x.Calls[r.Intn(len(x.Calls))]
			}
			x.Calls = slices.Insert(x.Calls, r.Intn(len(x.Calls)+1), slices.Repeat([]symbol.Call{c}, 1+r.Intn(4))...)
		}
		if r.Intn(2) > 0 {
			slices.SortStableFunc(x.Calls, func(a, b symbol.Call) int {
				if a.From != b.From {
					return a.From - b.From
				}
				return b.To - a.To
			})
		}
		want := plainCalls(x)
		seen[want]++
		if e := symbol.CheckTable(x); e != want {
			t.Fatalf("%v: %v, not %v", x, e, want)
		}
	}
	for _, e := range []api.Errno{api.OK, api.ErrRange, api.ErrOrder, api.ErrState, api.ErrDeep} {
		if seen[e] < 20 {
			t.Error(e, seen[e])
		}
	}
}

// P2.1: functions with tables first return the error of these.
func TestFirstErrors(t *testing.T) {
	for _, bad := range badTables() {
		x, good := bad.table, sample()
		if l, e := symbol.At(x, -1); len(l) > 0 || e != bad.want {
			t.Errorf("%s: At %v %v", bad.name, l, e)
		}
		if l, e := symbol.Lines(x, "none", 0); len(l) > 0 || e != bad.want {
			t.Errorf("%s: Lines %v %v", bad.name, l, e)
		}
		if l, e := symbol.Shares(x); len(l) > 0 || e != bad.want {
			t.Errorf("%s: Shares %v %v", bad.name, l, e)
		}
		if l, e := symbol.Differ(x, good); len(l) > 0 || e != bad.want {
			t.Errorf("%s: Differ of a %v %v", bad.name, l, e)
		}
		if l, e := symbol.Differ(good, x); len(l) > 0 || e != bad.want {
			t.Errorf("%s: Differ of b %v %v", bad.name, l, e)
		}
		if l, e := symbol.Differ(x, symbol.Table{Id: id, Size: -1, Files: strings.Fields("a a")}); len(l) > 0 || e != bad.want {
			t.Errorf("%s: Differ of both %v %v", bad.name, l, e)
		}
		if s, e := symbol.Write(x); s != "" || e != bad.want {
			t.Errorf("%s: Write %q %v", bad.name, s, e)
		}
		if s, e := symbol.Text(x); s != "" || e != bad.want {
			t.Errorf("%s: Text %q %v", bad.name, s, e)
		}
	}
}
