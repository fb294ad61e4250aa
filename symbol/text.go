package symbol

import (
	"strconv"
	"strings"

	"inquest/api"
)

// Kinds of lines, in their order.
const (
	tableLine = iota
	fileLine
	funcLine
	rowLine
	callLine
)

// Parts of lines.
const (
	wordPart   = 'w'
	numberPart = 'n'
	filePart   = 'f' // a number, or -1
)

// lineKinds has the first word and the other parts of each kind of line.
var lineKinds = [...]struct{ word, parts string }{
	tableLine: {"table", "wn"},
	fileLine:  {"file", "w"},
	funcLine:  {"func", "nnw"},
	rowLine:   {"row", "nfn"},
	callLine:  {"call", "nnnnw"},
}

const decimals = 10 // the most digits of a number

// Text writes a table as lines.
func Text(t Table) (string, api.Errno) {
	if e := CheckTable(t); e != api.OK {
		return "", e
	}
	var b strings.Builder
	line := func(kind int, parts ...string) {
		b.WriteString(lineKinds[kind].word + " " + strings.Join(parts, " ") + "\n")
	}
	line(tableLine, t.Id, strconv.Itoa(t.Size))
	for _, file := range t.Files {
		line(fileLine, file)
	}
	for _, f := range t.Funcs {
		line(funcLine, strconv.Itoa(f.From), strconv.Itoa(f.To), f.Name)
	}
	for _, r := range t.Rows {
		line(rowLine, strconv.Itoa(r.At), strconv.Itoa(r.File), strconv.Itoa(r.Line))
	}
	for _, c := range t.Calls {
		line(callLine, strconv.Itoa(c.From), strconv.Itoa(c.To), strconv.Itoa(c.File), strconv.Itoa(c.Line), c.Name)
	}
	return bounded(b.String())
}

// ReadText reads what Text writes; the int is the number of the line with ErrSyntax.
func ReadText(s string) (Table, int, api.Errno) {
	if len(s) > api.MaxText {
		return Table{}, 0, api.ErrLarge
	}
	var t Table
	before := tableLine
	for number := 1; s != "" || number == 1; number++ {
		line, rest, ended := strings.Cut(s, "\n")
		kind, ok := readLine(&t, line)
		if !ok || !ended || kind < before || (kind == tableLine) != (number == 1) {
			return Table{}, number, api.ErrSyntax
		}
		s, before = rest, kind
	}
	if e := CheckTable(t); e != api.OK {
		return Table{}, 0, e
	}
	return t, 0, api.OK
}

// readLine adds what a line tells to a table, and returns the kind of the line; false: it is of none.
func readLine(t *Table, line string) (int, bool) {
	first, rest, _ := strings.Cut(line, " ")
	for kind, k := range lineKinds {
		if k.word != first {
			continue
		}
		word, n, ok := readParts(rest, k.parts)
		if ok {
			addLine(t, kind, word, n)
		}
		return kind, ok
	}
	return 0, false
}

// readParts reads the word and the numbers of a line.
func readParts(s, parts string) (word string, numbers []int, ok bool) {
	words := strings.Split(s, " ")
	if len(words) != len(parts) {
		return "", nil, false
	}
	for i, w := range words {
		if parts[i] == wordPart {
			word, ok = w, w != ""
		} else {
			var n int
			n, ok = readDecimal(w, parts[i] == filePart)
			numbers = append(numbers, n)
		}
		if !ok {
			return "", nil, false
		}
	}
	return word, numbers, true
}

// readDecimal reads a number as it would be written; strconv takes signs and zeros ahead, too.
func readDecimal(s string, unknown bool) (int, bool) {
	if unknown && s == "-1" {
		return -1, true
	}
	if len(s) > decimals {
		return 0, false
	}
	n, err := strconv.Atoi(s)
	return n, err == nil && n >= 0 && strconv.Itoa(n) == s
}

func addLine(t *Table, kind int, word string, n []int) {
	switch kind {
	case tableLine:
		t.Id, t.Size = word, n[0]
	case fileLine:
		t.Files = append(t.Files, word)
	case funcLine:
		t.Funcs = append(t.Funcs, Func{word, n[0], n[1]})
	case rowLine:
		t.Rows = append(t.Rows, Row{n[0], n[1], n[2]})
	case callLine:
		t.Calls = append(t.Calls, Call{word, n[0], n[1], n[2], n[3]})
	}
}
