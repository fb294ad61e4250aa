package name_test

import (
	"fmt"
	"slices"
	"strconv"
	"strings"
	"testing"

	"inquest/api"
	"inquest/name"
)

// refuses tells whether there is ErrSyntax at an offset, from Demangle or from Parse.
func refuses(t *testing.T, read func(string) (name.Symbol, int, api.Errno), text string, want int) {
	t.Helper()
	if s, n, e := read(text); !zero(s) || n != want || e != api.ErrSyntax {
		t.Errorf("%.100q: %v %d %v, not %d", text, s, n, e, want)
	}
}

// P3.3: bytes that cannot stand where they stand.
func TestWrongBytes(t *testing.T) {
	for text, at := range map[string]int{
		"x": 0, "q": 0, "N1aE": 0, " QN1aEZ": 0, "Z": 0, "\xff": 0, "\x00": 0,
		"QQ": 1, "QZ": 1, "Q1a": 1, "QRN1aE": 1, "QE": 1, "Qn": 1,
		"QNE": 2, "QNZ": 2, "QNI": 2, "QNN1aE": 2, "QN-": 2, "QN_": 2, "QNa": 2, "QN\x00": 2,
		"QN1aZ": 4, "QN1aN": 4, "QN1aS0_": 4, "QN1aQ": 4, "QN1a_": 4, "QN1aa": 4,
		"QN1aEE": 5, "QN1aE1": 5, "QN1aEI": 5, "QN1aEQ": 5, "QN1aE_": 5, "QN1aEz": 5, "QN1aE\xff": 5,
		"QN1aIE": 5, "QN1aIZ": 5, "QN1aI1a": 5, "QN1aII": 5, "QN1aIN1bEZ": 9, "QN1aIN1bE1cE": 9, "QN1aIN1bEEI": 10, "QN1aIN1bEEZ": 10, "QN1aIN1bEEN": 10,
		"QN1aEFE": 6, "QN1aEFZ": 6, "QN1aEF1": 6, "QN1aEFN1bEZ": 10, "QN1aEFN1bEI": 10,
		"QN1aERE": 6, "QN1aERZ": 6, "QN1aEL1": 6, "QN1aELZ": 6, "QN1aERRE": 7, "QN1aERQ": 6,
		"QN1aEN1bEE": 9, "QN1aERN1bEE": 10, "QN1aELN1bE1": 10, "QN1aEN1bEI": 9, "QN1aEN1bE1": 9,
		"QN1aENE": 6, "QN1aENZ": 6, "QN1aENI": 6,
		"QN1aES": 6, "QN1aES_": 6, "QN1aESE": 6, "QN1aES-1_": 6, "QN1aES0E": 7, "QN1aES1x": 7, "QN1aEN1bES0Z": 11, "QN1aEN1bES0 _": 11, "QN1aES9999x": 10,
	} {
		refuses(t, name.Demangle, text, at)
	}
}

// P3.3: numbers and identifiers.
func TestWrongNumbers(t *testing.T) {
	for text, at := range map[string]int{
		"QN0EZ": 2, "QN0": 2, "QN00": 2, "QN01aEZ": 2, "QN001aEZ": 2, "QN0a": 2,
		"QN9aEZ": 2, "QN3aE": 2, "QN4aEZ": 2, "QN1": 2, "QN60" + word(59): 2, "QN12": 2, "QN9": 2, "QN4-EZ": 2,
		"QN61" + word(61) + "EZ": 2, "QN100" + word(100) + "EZ": 2, "QN9999" + word(7000): 2, "QN12345" + word(7000): 2, "QN10000" + word(7000): 2, "QN99999999999999999999999aEZ": 2, "QN11111111111111111111111111": 2,
		"QN1-EZ": 3, "QN2a-EZ": 4, "QN2-aEZ": 3, "QN2aéEZ": 4, "QN3a.bEZ": 4, "QN1\x00EZ": 3, "QN2a EZ": 4, "QN1EZ": 4, "QN60" + word(59) + "-EZ": 63,
		"QN1a0EZ": 4, "QN1a9bEZ": 4, "QN1a1bE0": 7, "QN1aEN0": 6, "QN1aEN61" + word(61): 6,
		"QN1aES12345_Z": 6, "QN1aES00_Z": 6, "QN1aES01_Z": 6, "QN1aES00": 6, "QN1aES12345": 6, "QN1aEN1bES00_Z": 10, "QN1aEN1bES99999999999999999999_Z": 10, "QN1aEN1bES01x": 10, "QN1aEN1bES12345x": 10,
	} {
		refuses(t, name.Demangle, text, at)
	}
}

// P3.3: the end of the string where something is missing.
func TestMissing(t *testing.T) {
	for text, at := range map[string]int{"": 0, "Q": 1, "QN": 2, "QN1aES": 6, "QN1aES0": 7, "QN1aES1234": 10, "QN1aEN1bES0": 11} {
		refuses(t, name.Demangle, text, at)
	}
	for _, p := range pairs() {
		for i := range p.mangled {
			// Within an identifier, or its number, it is the number that is wrong.
			want := i
			if at, long, ok := identifierAt(p.mangled, i); ok && i > at && i < at+long {
				want = at
			}
			refuses(t, name.Demangle, p.mangled[:i], want)
		}
		for _, behind := range []string{"Z", "Q", "\x00", "\n", " ", "N1aE", p.mangled} {
			refuses(t, name.Demangle, p.mangled+behind, len(p.mangled))
		}
	}
}

// identifierAt tells where the identifier begins, with its number, in which a byte of a mangled name is, and how many bytes both have.
func identifierAt(s string, i int) (at, long int, ok bool) {
	for at = 0; at <= i; {
		digits := 0
		for at+digits < len(s) && s[at+digits] >= '0' && s[at+digits] <= '9' {
			digits++
		}
		if digits == 0 || s[at-1] == 'S' {
			at += max(digits, 1)
			continue
		}
		n, _ := strconv.Atoi(s[at : at+digits])
		if i < at+digits+n {
			return at, digits + n, true
		}
		at += digits + n
	}
	return 0, 0, false
}

// P3.3: numbers of types, and types that were written out before.
func TestWrongTypes(t *testing.T) {
	for text, at := range map[string]int{
		// numbers that have no type
		"QN1aES0_Z": 5, "QN1aES0_": 5, "QN1aES0_x": 5, "QN1aES9999_Z": 5, "QN1aEN1bES1_Z": 9, "QN1aEN1bES1_x": 9, "QN1aEN1bES10_Z": 9,
		"QN1aERS0_": 6, "QN1aEFN1bES1_E": 10, "QN1aELN1bES2_Z": 10, "QN1aIS0_E": 5, "QN1aIN1bES1_E": 9, "QN1aEN1bIS0_E": 9,
		// types that are equal to earlier ones
		"QN1aEN1bEN1bEZ": 9, "QN1aEN1bEN1bE": 9, "QN1aEN1bEN1bEx": 9, "QN1aEN1bEN1bx": 12, "QN1aEN1bEN1b": 12,
		"QN1aEN1bERS0_RS0_Z": 13, "QN1aERN1bERN1bEZ": 11, "QN1aERN1bERS0_Z": 10, "QN1aELN1bELS0_Z": 10,
		"QN1aEFN1bEEFS0_EZ": 11, "QN1aEFN1bES0_EFS0_S0_EZ": 14, "QN1aIN1bEEEN1bEZ": 11, "QN1aEN1bEN2bbEN1bE": 14, "QN1aIN1bEN1bEEEZ": 9,
		"QN1aEN1bIN1cEEEN1bIS0_EEZ": 15, "QN1aEN1bIN1cEEEN1bIN1cEEEZ": 19, "QN1aIRN1bEEERS0_Z": 12, "QN1aELLN1bELLS0_Z": 12, "QN1aELLN1bELS1_Z": 11,
	} {
		refuses(t, name.Demangle, text, at)
	}
}

// P3.3: types within one another.
func TestDeepMangled(t *testing.T) {
	for _, mark := range []string{"L", "R", "F"} {
		deep := "QN1aE" + strings.Repeat(mark, 11)
		end := ""
		if mark == "F" {
			end = strings.Repeat("E", 11)
		}
		if s, n, e := name.Demangle(deep + "N1bE" + end + "Z"); n != 0 || e != api.OK || len(s.Takes) != 1 {
			t.Error(mark, n, e)
		}
		for _, behind := range []string{"N1bE" + end + "Z", "", "x", "S0_Z", "S0", "E", "RN1bEZ", "LN1bEZ", "FN1bEEZ"} {
			refuses(t, name.Demangle, deep+mark+behind, 17)
		}
		refuses(t, name.Demangle, deep+"N1bIN1cEEEZ", 20)
		refuses(t, name.Demangle, deep+"N1bIEEZ", 20)
	}
	refuses(t, name.Demangle, "QN1aEN1bE"+strings.Repeat("R", 12)+"S0_Z", 21)
	if _, n, e := name.Demangle("QN1aEN1bE" + strings.Repeat("R", 11) + "S0_Z"); n != 0 || e != api.OK {
		t.Error(n, e)
	}
	args := strings.Repeat("N1bI", 11)
	if _, n, e := name.Demangle("QN1aI" + args + "N1bE" + strings.Repeat("EE", 11) + "EEZ"); n != 0 || e != api.OK {
		t.Error(n, e)
	}
	refuses(t, name.Demangle, "QN1aI"+args+"N1bI"+"N1bE"+strings.Repeat("EE", 12)+"EEZ", 53)
}

// P3.3: Check's errors, behind those of the string.
func TestLargeMangled(t *testing.T) {
	deep, wide := "QN1aEN1bE", "QN1aEN1bE"
	for i := range 12 {
		deep += fmt.Sprintf("LS%d_", i)
	}
	for i := range 400 {
		wide += fmt.Sprintf("FS%d_S%d_E", i, i)
	}
	refs := func(n int) string { return strings.Repeat("S0_", n) }
	// 1 and 22 and 442 and 22 types
	many := "QN1aEN1bEF" + refs(21) + "EF" + strings.Repeat("S1_", 20) + "S0_ES1_"
	cases := []struct {
		text string
		want api.Errno
	}{
		{strings.TrimSuffix(deep, "LS11_"), api.OK}, {deep, api.ErrDeep}, {"QN1aEN1bE" + refs(20), api.ErrLarge}, {deep + refs(8), api.ErrLarge}, {deep + refs(7), api.ErrDeep},
		{wide, api.ErrLarge}, {wide[:len("QN1aEN1bEFS0_S0_E")+6*8], api.ErrLarge}, {wide[:len("QN1aEN1bEFS0_S0_E")+5*8], api.OK},
		{many + refs(13), api.OK}, {many + refs(14), api.ErrLarge},
		{"QN1aEN1bE" + refs(19), api.OK}, {"QN1aEN1bEF" + refs(21) + "E", api.OK}, {"QN1aEN1bEF" + refs(22) + "E", api.ErrLarge},
		{"QN1aEN1bEN1cI" + refs(20) + "EE", api.OK}, {"QN1aEN1bEN1cI" + refs(21) + "EE", api.ErrLarge}, {"QN1aIN1bE" + refs(19) + "EE", api.OK}, {"QN1aIN1bE" + refs(20) + "EE", api.ErrLarge},
		{"QN" + strings.Repeat("1a", 20) + "E", api.OK}, {"QN" + strings.Repeat("1a", 21) + "E", api.ErrLarge}, {"QN1aEN" + strings.Repeat("1a", 20) + "E", api.OK}, {"QN1aEN" + strings.Repeat("1a", 21) + "E", api.ErrLarge},
		{"QN" + strings.Repeat("1a", 3990) + "E", api.ErrLarge},
	}
	for _, c := range cases {
		s, n, e := name.Demangle(c.text + "Z")
		if n != 0 || e != c.want || e != api.OK && !zero(s) {
			t.Errorf("%.200q: %d %v, not %v", c.text, n, e, c.want)
		}
		// An error of the string comes before.
		refuses(t, name.Demangle, c.text, len(c.text))
		refuses(t, name.Demangle, c.text+"x", len(c.text))
		refuses(t, name.Demangle, c.text+"ZZ", len(c.text)+1)
	}
}

// opened is a part of a mangled name that has begun, and not ended.
type opened struct {
	mark    byte // that it begins with
	at      int
	items   int    // in it
	spelled string // these, with all types written out
}

// nameAt is where the name of a symbol begins.
const nameAt = 1

// mangledReader reads as the chapter tells it, byte by byte, without calls within one another.
type mangledReader struct {
	text    string
	at      int
	open    []opened
	written []string
	wrong   int // -1: nothing is wrong
}

// plainDemangle is the offset of the error of a string; -1, if it has none but Check's.
func plainDemangle(text string) int {
	m := &mangledReader{text: text, wrong: -1}
	for _, mark := range []byte("QN") {
		if m.next() != mark {
			return m.at
		}
		m.begin(mark)
	}
	for m.wrong < 0 && len(m.open) > 0 {
		m.step()
	}
	if m.wrong < 0 && m.at < len(text) {
		return m.at
	}
	return m.wrong
}

// next is the next byte; 0 at the end, which can stand nowhere.
func (m *mangledReader) next() byte {
	if m.at < len(m.text) {
		return m.text[m.at]
	}
	return 0
}

func (m *mangledReader) begin(mark byte) {
	m.open = append(m.open, opened{mark: mark, at: m.at})
	m.at++
}

// deep is how many types are open.
func (m *mangledReader) deep() (n int) {
	for _, o := range m.open {
		if o.mark != 'Q' && o.mark != 'I' && o.at != nameAt {
			n++
		}
	}
	return n
}

func (m *mangledReader) step() {
	top, c := m.open[len(m.open)-1], m.next()
	types := top.mark != 'N' // what may stand in it
	room := m.deep() < 12
	switch {
	case !types && c >= '0' && c <= '9':
		m.identifier()
	case c == 'I' && !types && top.items > 0 && !strings.HasSuffix(top.spelled, ">"):
		m.begin('I')
	case c == 'E' && top.items > 0 && strings.IndexByte("NIF", top.mark) >= 0, c == 'Z' && top.mark == 'Q':
		m.at++
		m.end()
	case types && c == 'S' && room:
		m.number()
	case types && strings.IndexByte("NRLF", c) >= 0 && c != 0 && room:
		m.begin(c)
	default:
		m.wrong = m.at
	}
}

func (m *mangledReader) digits() string {
	rest := m.text[m.at:]
	return rest[:len(rest)-len(strings.TrimLeft(rest, "0123456789"))]
}

func (m *mangledReader) identifier() {
	digits := m.digits()
	n, err := strconv.Atoi(digits)
	from := m.at + len(digits)
	if err != nil || digits[0] == '0' || len(digits) > 4 || n > 60 || n > len(m.text)-from {
		m.wrong = m.at
		return
	}
	for i := from; i < from+n; i++ {
		if e := name.Check(name.Symbol{Name: []name.Part{{Text: m.text[from : i+1]}}}); e != api.OK {
			m.wrong = i
			return
		}
	}
	top := &m.open[len(m.open)-1]
	top.items++
	top.spelled += "." + m.text[from:from+n]
	m.at = from + n
}

func (m *mangledReader) number() {
	s := m.at
	m.at++
	digits := m.digits()
	if len(digits) > 4 || len(digits) > 1 && digits[0] == '0' {
		m.wrong = m.at
		return
	}
	m.at += len(digits)
	if digits == "" || m.next() != '_' {
		m.wrong = m.at
		return
	}
	m.at++
	n, _ := strconv.Atoi(digits)
	if n >= len(m.written) {
		m.wrong = s
		return
	}
	m.add(m.written[n])
}

// end takes away what has ended.
func (m *mangledReader) end() {
	top := m.open[len(m.open)-1]
	m.open = m.open[:len(m.open)-1]
	switch {
	case len(m.open) == 0 || top.at == nameAt: // the symbol, or its name
	case top.mark == 'I':
		m.open[len(m.open)-1].spelled += "<" + top.spelled + ">"
	default:
		spelled := string(top.mark) + "(" + top.spelled + ")"
		if slices.Contains(m.written, spelled) {
			m.wrong = top.at
			return
		}
		m.written = append(m.written, spelled)
		m.add(spelled)
	}
}

// add adds a type to what it is in; a Ref or a List ends with it.
func (m *mangledReader) add(spelled string) {
	top := &m.open[len(m.open)-1]
	top.items++
	top.spelled += spelled + ","
	if top.mark == 'R' || top.mark == 'L' {
		m.end()
	}
}

// P3.3: strings that are near to mangled names.
func TestChangedMangled(t *testing.T) {
	marks := []string{"Q", "N", "I", "E", "F", "R", "L", "S", "Z", "_", "0", "1", "2", "S0_", "S1_", "S2_", "N1aE", "1a", "a", "RN1bE", "L", "FN1aEE", "-", "\xff", "LLLLLLLLLL", "RRRRRRRRRR", "FFFFFFFFF", "N1aIN1aIN1aIN1aIN1aIN1aIN1aIN1aI"}
	changes(t, 4, mangledForm(), marks)
}

// P3.3: all short strings of some bytes.
func TestAllMangled(t *testing.T) {
	w, taken := mangledForm(), 0
	for _, begin := range []string{"", "Q", "QN1aE", "QN1aIN1bE", "QN1aEFN1bE", "QN1aERN1bES"} {
		for n := range 12 * 12 * 12 * 12 * 12 {
			text := []byte(begin)
			for range 5 {
				text = append(text, "N1aEIFRLS0Z_"[n%12])
				n /= 12
			}
			if w.compares(t, string(text)) {
				taken++
			}
		}
	}
	if taken < 5 {
		t.Error(taken)
	}
}
