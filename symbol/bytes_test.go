package symbol_test

import (
	"encoding/binary"
	"math"
	"math/rand"
	"strings"
	"testing"

	"inquest/api"
	"inquest/symbol"
)

// num is what Number writes.
func num(n int) string {
	return string(binary.AppendUvarint(nil, uint64(n)))
}

// P2.4
func TestNumber(t *testing.T) {
	cases := map[int]string{
		0: "\x00", 1: "\x01", 127: "\x7f", 128: "\x80\x01", 300: "\xac\x02", 16_383: "\xff\x7f", 16_384: "\x80\x80\x01",
		1<<48 - 1: "\xff\xff\xff\xff\xff\xff\x3f", 1 << 48: "\x80\x80\x80\x80\x80\x80\x40", 1 << 42: "\x80\x80\x80\x80\x80\x80\x01", 1<<42 - 1: "\xff\xff\xff\xff\xff\x7f",
	}
	for n, want := range cases {
		if s, e := symbol.Number(n); s != want || e != api.OK {
			t.Errorf("%d: %q %v", n, s, e)
		}
		for _, behind := range []string{"", "\x00", "\x80", "x"} {
			if m, long, e := symbol.ReadNumber(want + behind); m != n || long != len(want) || e != api.OK {
				t.Errorf("%q: %d %d %v", want+behind, m, long, e)
			}
		}
	}
	for _, n := range []int{-1, 1<<48 + 1, math.MinInt, math.MaxInt} {
		if s, e := symbol.Number(n); s != "" || e != api.ErrRange {
			t.Errorf("%d: %q %v", n, s, e)
		}
	}
	for _, s := range []string{
		"", "\x80", "\xff", "\x80\x80\x80", "\xff\xff\xff\xff\xff\xff", "\xff\xff\xff\xff\xff\xff\xff", // it ends
		"\x80\x00", "\x81\x00", "\x80\x00\x01", "\x81\x00x", "\xff\x80\x00\x00", "\xff\x80\x00", "\x80\x80\x80\x80\x80\x80\x00", "\x81\x80\x80\x80\x80\x80\x80\x00", "\x80\x80\x80\x80\x80\x80\x80\x80\x80\x00x", // a 0 that it does not need
		"\x81\x80\x80\x80\x80\x80\x40", "\x80\x80\x80\x80\x80\x80\x41", "\xff\xff\xff\xff\xff\xff\x7f", "\x80\x80\x80\x80\x80\x80\x80\x01", "\x80\x80\x80\x80\x80\x80\x80\x80\x80\x80\x01", // above 2^48
		strings.Repeat("\x80", 1000) + "\x01", strings.Repeat("\xff", 20), strings.Repeat("\x80", 8) + "\x02",
	} {
		if n, long, e := symbol.ReadNumber(s); n != 0 || long != 0 || e != api.ErrSyntax {
			t.Errorf("%.30q: %d %d %v", s, n, long, e)
		}
	}
	r := rand.New(rand.NewSource(3))
	for range 20_000 {
		n := int(r.Int63n(1<<48+1)) >> r.Intn(49)
		s, e := symbol.Number(n)
		if s != num(n) || e != api.OK {
			t.Fatal(n, s, e)
		}
		if m, long, e := symbol.ReadNumber(s + "\xff"); m != n || long != len(s) || e != api.OK {
			t.Fatal(n, m, long, e)
		}
	}
}

// P2.5
func TestWrite(t *testing.T) {
	example1 := "IQT1" + id + "d\x01\x03a.c\x01\x00(\x04main\x02\x00\x00\x06\x0a\x00\x0a\x01\x0a\x0a\x00\x05\x03low"
	large := "IQT1" + id + num(symbol.MaxSize) + "\x01\xc8\x01" + word(200) + "\x01" + num(symbol.MaxSize-1) + "\x01\x01f\x00\x00"
	sample1 := "IQT1" + other + "d" + "\x02\x03a.c\x05b/c.h" +
		"\x03\x02\x26\x04main\x0a\x14\x04util\x00\x14\x04main" +
		"\x08\x01\x00\x06\x09\x02\x0a\x0a\x03\x0f\x0a\x04\x10\x14\x01\x09\x0a\x00\x00\x0f\x00\x02\x14\x02\x05" +
		"\x06\x0a\x0a\x00\x05\x03low\x02\x06\x01\x06\x05lower\x02\x02\x01\x07\x04same\x00\x02\x00" + num(9_999_999) + "\x04same\x10\x0a\x00\x09\x04util\x14\x14\x00\x02\x03low"
	cases := []struct {
		table symbol.Table
		want  string
	}{
		{symbol.Table{Id: id, Size: 1}, "IQT1" + id + "\x01\x00\x00\x00\x00"},
		{example(), example1},
		{sample(), sample1},
		{symbol.Table{Id: id, Size: symbol.MaxSize, Files: []string{word(200)}, Funcs: []symbol.Func{{"f", symbol.MaxSize - 1, symbol.MaxSize}}}, large},
		// Signed numbers: -1 is 1, -9999999 is 19999997.
		{symbol.Table{Id: id, Size: 3, Files: []string{"a"}, Rows: []symbol.Row{{0, -1, 0}, {1, 0, 9_999_999}, {2, -1, 0}}}, "IQT1" + id + "\x03\x01\x01a\x00\x03\x00\x01\x00\x01\x02" + num(19_999_998) + "\x01\x01" + num(19_999_997) + "\x00"},
	}
	for _, c := range cases {
		if s, e := symbol.Write(c.table); s != c.want || e != api.OK {
			t.Errorf("%q %v, not %q", s, e, c.want)
		}
		if x, e := symbol.Read(c.want); !equal(x, c.table) || e != api.OK {
			t.Errorf("%q: %v %v", c.want, x, e)
		}
	}
}

// P2.5, and what follows: Read of Write is the table.
func TestReadWritten(t *testing.T) {
	randomTables(t, 4, func(r *rand.Rand, x symbol.Table) {
		s, e := symbol.Write(x)
		if e != api.OK {
			t.Fatal(x, e)
		}
		if y, e := symbol.Read(s); !equal(x, y) || e != api.OK {
			t.Fatal(x, y, e)
		}
	})
	s, e := symbol.Write(largest())
	if len(s) > api.MaxText || e != api.OK {
		t.Fatal(len(s), e)
	}
	if y, e := symbol.Read(s); !equal(y, largest()) || e != api.OK {
		t.Error(e)
	}
}

// P2.5: bytes are missing, or left.
func TestMissingBytes(t *testing.T) {
	s, _ := symbol.Write(sample())
	for i := range s {
		if x, e := symbol.Read(s[:i]); !zero(x) || e != api.ErrSyntax {
			t.Errorf("%q: %v", s[:i], e)
		}
	}
	for _, behind := range []string{"\x00", "x", "\n", s} {
		if x, e := symbol.Read(s + behind); !zero(x) || e != api.ErrSyntax {
			t.Errorf("%q: %v", behind, e)
		}
	}
	for _, mark := range []string{"IQT0", "IQT2", "iqt1", "QT1I", "\x00\x00\x00\x00"} {
		if x, e := symbol.Read(mark + s[4:]); !zero(x) || e != api.ErrSyntax {
			t.Errorf("%q: %v", mark, e)
		}
	}
}

// P2.5: the errors of Read, and their order.
func TestReadErrors(t *testing.T) {
	head := "IQT1" + id + "\x09"
	most := num(1 << 48)
	rows := func(n int, row string) string {
		return head + "\x01\x01a\x00" + num(n) + strings.Repeat(row, n) + "\x00"
	}
	cases := []struct {
		name, s string
		want    api.Errno
	}{
		{"id", "IQT1" + id[1:] + "g\x09\x00\x00\x00\x00", api.ErrForm},
		{"id of any bytes", "IQT1" + strings.Repeat("\xff", 16) + "\x00\x00\x00\x00\x00", api.ErrForm},
		{"size 0", "IQT1" + id + "\x00\x00\x00\x00\x00", api.ErrRange},
		{"size", "IQT1" + id + num(symbol.MaxSize+1) + "\x00\x00\x00\x00", api.ErrRange},
		{"size 2^48", "IQT1" + id + most + "\x00\x00\x00\x00", api.ErrRange},
		{"size above", "IQT1" + id + "\x81\x80\x80\x80\x80\x80\x40\x00\x00\x00\x00", api.ErrSyntax},
		{"size as no number", "IQT1" + id + "\x89\x00\x00\x00\x00\x00", api.ErrSyntax},
		{"200 files", head + num(200) + strings.Repeat("\x01a", 200) + "\x00\x00\x00", api.ErrTwice},
		{"201 files", head + num(201) + strings.Repeat("\x01a", 201) + "\x00\x00\x00", api.ErrLarge},
		{"201 files, not all there", head + num(201) + strings.Repeat("\x01a", 200) + "\x00\x00\x00", api.ErrSyntax},
		{"201 files, bytes left", head + num(201) + strings.Repeat("\x01a", 201) + "\x00\x00\x00\x00", api.ErrSyntax},
		{"970000 files", head + num(970_000) + strings.Repeat("\x00", 970_000) + "\x00\x00\x00", api.ErrLarge},
		{"2^48 files", head + most + "\x00\x00\x00", api.ErrSyntax},
		{"empty file", head + "\x01\x00\x00\x00\x00", api.ErrForm},
		{"file that is too long", head + "\x01\x7fa\x00\x00\x00", api.ErrSyntax},
		{"file of 2^48 bytes", head + "\x01" + most + "a\x00\x00\x00", api.ErrSyntax},
		{"file of 201 bytes", head + "\x01" + num(201) + word(201) + "\x00\x00\x00", api.ErrLarge},
		{"file with its number in two bytes", head + "\x01\x81\x00a\x00\x00\x00", api.ErrSyntax},
		{"1000 functions", head + "\x00" + num(1000) + strings.Repeat("\x00\x00\x00", 1000) + "\x00\x00", api.ErrForm},
		{"1001 functions", head + "\x00" + num(1001) + strings.Repeat("\x00\x00\x00", 1001) + "\x00\x00", api.ErrLarge},
		{"2^48 functions", head + "\x00" + most + "\x00\x00", api.ErrSyntax},
		{"empty function", head + "\x00\x01\x00\x00\x01f\x00\x00", api.ErrRange},
		{"function behind the end", head + "\x00\x01\x00\x0a\x01f\x00\x00", api.ErrRange},
		{"functions of 2^48 bytes", head + "\x00" + num(1000) + strings.Repeat(most+most+"\x01f", 1000) + "\x00\x00", api.ErrRange},
		{"many functions of 2^48 bytes", head + "\x00" + num(60_000) + strings.Repeat(most+most+"\x01f", 60_000) + "\x00\x00", api.ErrLarge},
		{"5000 rows", rows(5000, "\x00\x00\x00"), api.ErrForm},
		{"5001 rows", rows(5001, "\x00\x00\x00"), api.ErrLarge},
		{"2^48 rows", head + "\x00\x00" + most + "\x00", api.ErrSyntax},
		{"rows with 2^48", rows(5000, most+most+most), api.ErrRange},
		{"many rows with 2^48", rows(40_000, most+most+most), api.ErrLarge},
		{"file -2", head + "\x01\x01a\x00\x01\x00\x03\x00\x00", api.ErrRange},
		{"equal rows", rows(2, "\x00\x00\x02"), api.ErrOrder},
		{"1000 calls", head + "\x00\x00\x00" + num(1000) + strings.Repeat("\x00\x00\x00\x00\x00", 1000), api.ErrForm},
		{"1001 calls", head + "\x00\x00\x00" + num(1001) + strings.Repeat("\x00\x00\x00\x00\x00", 1001), api.ErrLarge},
		{"2^48 calls", head + "\x00\x00\x00" + most, api.ErrSyntax},
		{"call with 2^48", head + "\x00\x00\x00\x01" + most + most + most + most + "\x01c", api.ErrRange},
		{"many calls with 2^48", head + "\x00\x00\x00" + num(30_000) + strings.Repeat(most+most+most+most+"\x01c", 30_000), api.ErrLarge},
		{"call in no function", head + "\x01\x01a\x00\x00\x01\x00\x01\x00\x01\x01c", api.ErrState},
		{"all bytes", strings.Repeat("x", api.MaxText), api.ErrSyntax},
		{"too many bytes", strings.Repeat("x", api.MaxText+1), api.ErrLarge},
		{"too many bytes behind a table", "IQT1" + id + "\x09\x00\x00\x00\x00" + strings.Repeat("x", api.MaxText), api.ErrLarge},
	}
	for _, c := range cases {
		if x, e := symbol.Read(c.s); !zero(x) || e != c.want {
			t.Errorf("%s: %.100v %v, not %v", c.name, x, e, c.want)
		}
	}
}

// P2.5 and Z10: what is read is what is written of it.
func TestChangedBytes(t *testing.T) {
	taken, refused := 0, 0
	randomTables(t, 5, func(r *rand.Rand, x symbol.Table) {
		s, _ := symbol.Write(x)
		for range 20 {
			y := change(r, s, "\x00\x01\x02\x03\x7f\x80\xffab")
			z, e := symbol.Read(y)
			if e != api.OK {
				refused++
				if !zero(z) {
					t.Fatalf("%q: %v %v", y, z, e)
				}
				continue
			}
			taken++
			if again, e := symbol.Write(z); again != y || e != api.OK {
				t.Fatalf("%q is read, but %q is written", y, again)
			}
		}
	})
	if taken < 1000 || refused < 1000 {
		t.Error(taken, refused)
	}
}

// change puts a byte in, out, or in the place of another one.
func change(r *rand.Rand, s, bytes string) string {
	at, k := r.Intn(len(s)), r.Intn(len(bytes))
	b := bytes[k : k+1]
	switch r.Intn(3) {
	case 0:
		return s[:at] + b + s[at+1:]
	case 1:
		return s[:at] + b + s[at:]
	}
	return s[:at] + s[at+1:]
}
