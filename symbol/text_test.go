package symbol_test

import (
	"math/rand"
	"regexp"
	"slices"
	"strings"
	"testing"

	"inquest/api"
	"inquest/symbol"
)

// lines puts a line feed behind each line.
func lines(l ...string) string {
	var b strings.Builder
	for _, line := range l {
		b.WriteString(line + "\n")
	}
	return b.String()
}

// wrong asks for ErrSyntax in a line.
func wrong(t *testing.T, s string, line int) {
	t.Helper()
	if x, n, e := symbol.ReadText(s); !zero(x) || n != line || e != api.ErrSyntax {
		t.Errorf("%.200q: %.80v %d %v, not line %d", s, x, n, e, line)
	}
}

const first = "table " + id + " 100"

// P2.6
func TestText(t *testing.T) {
	cases := []struct {
		table symbol.Table
		want  string
	}{
		{symbol.Table{Id: id, Size: 1}, "table " + id + " 1\n"},
		{example(), lines(first, "file a.c", "func 0 40 main", "row 0 0 3", "row 10 0 8", "call 10 20 0 5 low")},
		{sample(), lines("table "+other+" 100", "file a.c", "file b/c.h", "func 2 40 main", "func 50 70 util", "func 70 90 main",
			"row 1 0 3", "row 10 1 8", "row 20 -1 0", "row 30 1 8", "row 50 0 3", "row 60 0 3", "row 75 0 4", "row 95 1 1",
			"call 10 20 0 5 low", "call 12 18 1 6 lower", "call 14 16 1 7 same", "call 14 16 0 9999999 same", "call 30 40 0 9 util", "call 50 70 0 2 low")},
		{symbol.Table{Id: id, Size: symbol.MaxSize, Funcs: []symbol.Func{{"f", symbol.MaxSize - 1, symbol.MaxSize}}}, lines("table "+id+" 4294967296", "func 4294967295 4294967296 f")},
		// Lists may be empty before others, and words may look like numbers and kinds.
		{symbol.Table{Id: id, Size: 9, Rows: []symbol.Row{{0, -1, 0}}}, lines("table "+id+" 9", "row 0 -1 0")},
		{symbol.Table{Id: id, Size: 9, Files: []string{"table", "-1", "func"}, Funcs: []symbol.Func{{"007", 0, 1}}}, lines("table "+id+" 9", "file table", "file -1", "file func", "func 0 1 007")},
	}
	for _, c := range cases {
		if s, e := symbol.Text(c.table); s != c.want || e != api.OK {
			t.Errorf("%q %v, not %q", s, e, c.want)
		}
		if x, n, e := symbol.ReadText(c.want); !equal(x, c.table) || n != 0 || e != api.OK {
			t.Errorf("%q: %v %d %v", c.want, x, n, e)
		}
	}
}

// P2.6, and what follows: ReadText of Text is the table.
func TestReadTextWritten(t *testing.T) {
	randomTables(t, 6, func(r *rand.Rand, x symbol.Table) {
		s, e := symbol.Text(x)
		if e != api.OK {
			t.Fatal(x, e)
		}
		if y, n, e := symbol.ReadText(s); !equal(x, y) || n != 0 || e != api.OK {
			t.Fatal(x, y, n, e)
		}
	})
	s, e := symbol.Text(largest())
	if len(s) > api.MaxText || e != api.OK {
		t.Fatal(len(s), e)
	}
	if y, n, e := symbol.ReadText(s); !equal(y, largest()) || n != 0 || e != api.OK {
		t.Error(n, e)
	}
}

// P2.6: lines that are not of their form.
func TestWrongLines(t *testing.T) {
	numbers := []string{"", "00", "01", "-0", "+1", "-2", "1_0", "0x1", "1.0", "1e1", "a", "\xd9\xa1", "12345678901", "00000000001", "99999999999999999999", "1\t", "1\r", "--1"}
	for _, n := range numbers {
		wrong(t, lines("table "+id+" "+n), 1)
		for _, line := range []string{"func N 1 f", "func 0 N f", "row N 0 1", "row 0 N 1", "row 0 0 N", "call N 1 0 1 f", "call 0 N 0 1 f", "call 0 1 N 1 f", "call 0 1 0 N f"} {
			wrong(t, lines(first, strings.Replace(line, "N", n, 1)), 2)
		}
	}
	// -1 is a file of a row alone.
	wrong(t, lines("table "+id+" -1"), 1)
	for _, line := range []string{"func -1 1 f", "func 0 -1 f", "row -1 0 1", "row 0 0 -1", "call -1 1 0 1 f", "call 0 -1 0 1 f", "call 0 1 -1 1 f", "call 0 1 0 -1 f"} {
		wrong(t, lines(first, line), 2)
	}
	for _, line := range []string{
		"", " ", "x", "file", "file ", "file  a", "file a ", "file a b", " file a", "File a", "files a", "file\ta", "filea", "\tfile a",
		"func", "func 0", "func 0 1", "func 0 1 ", "func 0 1 f ", "func 0 1 f g", "func  0 1 f", "func 0  1 f", "func 0 1  f", "func f 0 1", "func 0 1 f\x00 ",
		"row", "row 0", "row 0 0", "row 0 0 1 ", "row 0 0 1 2", "row  0 0 1", "row 0 0  1", "row 0 a 1", "row 0 -1 ", "row 0 - 0", "row 0 0 1 f",
		"call", "call 0 1 0 1", "call 0 1 0 1 ", "call 0 1 0 1 f ", "call 0 1 0 f", "call 0 1 0 1 1 f", "call  0 1 0 1 f", "calls 0 1 0 1 f", first + " ", "tables",
	} {
		wrong(t, lines(first, line), 2)
		wrong(t, lines(first, line, "x"), 2)
		wrong(t, lines(line, first), 1)
	}
	for _, line := range []string{"table", "table ", "table " + id, "table " + id + " ", "table  " + id + " 1", "table 1", "table  1", "table " + id + " 1 ", "table " + id + " 1 2", " table " + id + " 1", "Table " + id + " 1", "table " + id + "  1", "table " + id + " 12345678901"} {
		wrong(t, lines(line), 1)
	}
}

// P2.6: the order of lines, and lines that are missing or have no end.
func TestLineOrder(t *testing.T) {
	wrong(t, "", 1)
	wrong(t, "\n", 1)
	wrong(t, first, 1)
	wrong(t, lines(first)+"file a", 2)
	wrong(t, lines(first)+"\n", 2)
	wrong(t, lines(first, "file a")+"\n", 3)
	wrong(t, lines(first, first), 2)
	wrong(t, lines(first, "file a", first), 3)
	kinds := []string{"file a", "func 0 9 f", "row 0 0 1", "call 0 1 0 1 f"}
	for i, line := range kinds {
		wrong(t, lines(line), 1)
		wrong(t, lines(line, first), 1)
		wrong(t, lines(first, line, first), 3)
		for _, before := range kinds[:i] {
			wrong(t, lines(first, line, before), 3)
			wrong(t, lines(first, line, line, before, "x"), 4)
		}
	}
	s, _ := symbol.Text(sample())
	for i := range s {
		line := 1 + strings.Count(s[:i], "\n")
		if i > 0 && s[i-1] == '\n' {
			continue
		}
		wrong(t, s[:i], line)
	}
}

// P2.6: ErrLarge before, and CheckTable's errors behind those of lines.
func TestReadTextErrors(t *testing.T) {
	cases := []struct {
		s    string
		want api.Errno
	}{
		{strings.Repeat("x", api.MaxText+1), api.ErrLarge},
		{lines(first) + strings.Repeat("file a\n", 150_000), api.ErrLarge},
		{lines("table x 1"), api.ErrForm},
		{lines("table " + strings.ToUpper(id) + " 1"), api.ErrForm},
		{lines("table " + id + " 0"), api.ErrRange},
		{lines("table " + id + " 4294967297"), api.ErrRange},
		{lines("table " + id + " 9999999999"), api.ErrRange},
		{lines(first, "file a:b"), api.ErrByte},
		{lines(first, "file a\tb"), api.ErrByte},
		{lines(first, "file a\r"), api.ErrByte},
		{lines(first, "file \xc3\xa9"), api.ErrByte},
		{lines(first, "file \x00"), api.ErrByte},
		{lines(first, "file "+word(201)), api.ErrLarge},
		{lines(first, "file a", "file a"), api.ErrTwice},
		{lines(first) + strings.Repeat("file a\n", 201), api.ErrLarge},
		{lines(first, "func 0 9999999999 f"), api.ErrRange},
		{lines(first, "func 0 1 a!b"), api.ErrByte},
		{lines(first, "func 5 9 f", "func 0 1 f"), api.ErrOrder},
		{lines(first) + strings.Repeat("func 0 1 f\n", 1001), api.ErrLarge},
		{lines(first, "row 0 0 1"), api.ErrRange},
		{lines(first, "row 0 -1 1"), api.ErrForm},
		{lines(first, "file a", "row 0 0 9999999999"), api.ErrRange},
		{lines(first) + strings.Repeat("row 0 -1 0\n", 5001), api.ErrLarge},
		{lines(first, "file a", "call 0 1 0 1 f"), api.ErrState},
		{lines(first) + strings.Repeat("call 0 1 0 1 f\n", 1001), api.ErrLarge},
	}
	for _, c := range cases {
		if x, n, e := symbol.ReadText(c.s); !zero(x) || n != 0 || e != c.want {
			t.Errorf("%.80q: %.80v %d %v, not %v", c.s, x, n, e, c.want)
		}
		if c.want != api.ErrLarge || len(c.s) < api.MaxText {
			wrong(t, c.s+"x", 1+strings.Count(c.s, "\n"))
		}
	}
	wrong(t, strings.Repeat("x", api.MaxText), 1)
	wrong(t, strings.Repeat("\n", api.MaxText), 1)
	wrong(t, "table"+strings.Repeat(" ", api.MaxText-6)+"\n", 1)
}

// lineForms are the kinds of lines of P2.6, in their order.
func lineForms() []*regexp.Regexp {
	number, word := ` (0|[1-9][0-9]{0,9})`, ` [^ \n]+`
	var l []*regexp.Regexp
	for _, form := range []string{"table" + word + number, "file" + word, "func" + number + number + word, "row" + number + "( -1|" + number + ")" + number, "call" + number + number + number + number + word} {
		l = append(l, regexp.MustCompile(`\A`+form+`\n\z`))
	}
	return l
}

// firstWrong is the first line that P2.6 does not allow, or 0.
func firstWrong(forms []*regexp.Regexp, s string) int {
	before := 0
	for i, line := range strings.SplitAfter(s, "\n") {
		if line == "" && i > 0 {
			return 0
		}
		kind := slices.IndexFunc(forms, func(form *regexp.Regexp) bool { return form.MatchString(latin(line)) })
		if kind < before || (kind == 0) != (i == 0) {
			return i + 1
		}
		before = kind
	}
	return 0
}

// latin makes a letter of each byte, since the forms are asked for letters.
func latin(s string) string {
	var b strings.Builder
	for i := range len(s) {
		b.WriteRune(rune(s[i]))
	}
	return b.String()
}

// P2.6 and Z10: what is read is what is written of it, and the first wrong line is told.
func TestChangedTexts(t *testing.T) {
	r := rand.New(rand.NewSource(7))
	taken, refused, forms := 0, 0, lineForms()
	for range 10_000 {
		s, _ := symbol.Text(randomTable(r))
		for range 1 + r.Intn(2) {
			s = change(r, s, "0019-+ \n\tafilerow\x00\xff")
		}
		x, n, e := symbol.ReadText(s)
		switch want := firstWrong(forms, s); {
		case e == api.OK:
			taken++
			if again, e := symbol.Text(x); again != s || e != api.OK {
				t.Fatalf("%q is read, but %q is written", s, again)
			}
		case !zero(x), n != want, (e == api.ErrSyntax) != (want > 0):
			t.Fatalf("%q: %v %d %v, not line %d", s, x, n, e, want)
		default:
			refused++
		}
	}
	if taken < 200 || refused < 2000 {
		t.Error(taken, refused)
	}
}
