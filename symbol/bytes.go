package symbol

import "inquest/api"

const mark = "IQT1"

// Write writes a table as bytes.
func Write(t Table) (string, api.Errno) {
	if e := CheckTable(t); e != api.OK {
		return "", e
	}
	b := []byte(mark + t.Id)
	b = appendNumber(b, t.Size)
	b = appendFiles(b, t.Files)
	b = appendFuncs(b, t.Funcs)
	b = appendRows(b, t.Rows)
	b = appendCalls(b, t.Calls)
	return bounded(string(b))
}

// bounded returns what was written, if a reader takes as much.
func bounded(s string) (string, api.Errno) {
	if len(s) > api.MaxText {
		return "", api.ErrLarge
	}
	return s, api.OK
}

func appendFiles(b []byte, l []string) []byte {
	b = appendNumber(b, len(l))
	for _, file := range l {
		b = appendWord(b, file)
	}
	return b
}

func appendFuncs(b []byte, l []Func) []byte {
	b = appendNumber(b, len(l))
	end := 0
	for _, f := range l {
		b = appendNumber(b, f.From-end)
		b = appendNumber(b, f.To-f.From)
		b = appendWord(b, f.Name)
		end = f.To
	}
	return b
}

func appendRows(b []byte, l []Row) []byte {
	b = appendNumber(b, len(l))
	var before Row
	for _, r := range l {
		b = appendNumber(b, r.At-before.At)
		b = appendSigned(b, r.File-before.File)
		b = appendSigned(b, r.Line-before.Line)
		before = r
	}
	return b
}

func appendCalls(b []byte, l []Call) []byte {
	b = appendNumber(b, len(l))
	from := 0
	for _, c := range l {
		b = appendNumber(b, c.From-from)
		b = appendNumber(b, c.To-c.From)
		b = appendNumber(b, c.File)
		b = appendNumber(b, c.Line)
		b = appendWord(b, c.Name)
		from = c.From
	}
	return b
}

// Read reads what Write writes.
func Read(s string) (Table, api.Errno) {
	if len(s) > api.MaxText {
		return Table{}, api.ErrLarge
	}
	in := newInput(s)
	marked := in.take(len(mark)) == mark
	t := Table{Id: in.take(idLong), Size: in.number()}
	t.Files = readFiles(in)
	t.Funcs = readFuncs(in)
	t.Rows = readRows(in)
	t.Calls = readCalls(in)
	if !marked || !in.done() {
		return Table{}, api.ErrSyntax
	}
	if e := CheckTable(t); e != api.OK {
		return Table{}, e
	}
	return t, api.OK
}

// input has functions that read a string part by part. From the first part that is missing on, all are empty.
type input struct {
	take   func(n int) string
	number func() int
	list   func(read func()) // reads a number, and as many elements
	done   func() bool       // tells whether nothing was missing, and nothing is left
}

func newInput(s string) input {
	missing := false
	fail := func() { s, missing = "", true }
	take := func(n int) string {
		if n > len(s) {
			fail()
			return ""
		}
		part := s[:n]
		s = s[n:]
		return part
	}
	number := func() int {
		n, long, e := ReadNumber(s)
		if e != api.OK {
			fail()
			return 0
		}
		take(long)
		return n
	}
	list := func(read func()) {
		for n := number(); n > 0 && !missing; n-- {
			read()
		}
	}
	return input{take, number, list, func() bool { return !missing && s == "" }}
}

func (in input) word() string { return in.take(in.number()) }

func (in input) signed() int { return signedOf(in.number()) }

func readFiles(in input) (l []string) {
	in.list(func() { l = append(l, in.word()) })
	return l
}

// In a list that is longer than a table may have, the sums of numbers can wrap around: CheckTable refuses the list before it looks at them.

func readFuncs(in input) (l []Func) {
	end := 0
	in.list(func() {
		from := end + in.number()
		end = from + in.number()
		l = append(l, Func{in.word(), from, end})
	})
	return l
}

func readRows(in input) (l []Row) {
	var r Row
	in.list(func() {
		r.At += in.number()
		r.File += in.signed()
		r.Line += in.signed()
		l = append(l, r)
	})
	return l
}

func readCalls(in input) (l []Call) {
	var c Call
	in.list(func() {
		c.From += in.number()
		c.To = c.From + in.number()
		c.File = in.number()
		c.Line = in.number()
		c.Name = in.word()
		l = append(l, c)
	})
	return l
}
