package name

import "inquest/api"

// The most digits of a number in mangled names.
const mostDigits = 4

// Demangle reads what Mangle writes.
func Demangle(text string) (Symbol, int, api.Errno) {
	return readSymbol(text, readMangled)
}

// mangled is a mangled name that is read.
type mangled struct {
	*input
	types   []Type         // those that were written out
	numbers map[string]int // of these, by how they are in short
	short   []byte         // the text up to kept, with a number in the place of each type that has ended
	kept    int
}

func readMangled(in *input) (s Symbol, ok bool) {
	m := &mangled{input: in, numbers: map[string]int{}}
	if !m.take("Q") {
		return Symbol{}, false
	}
	if s.Name, ok = m.name(0); !ok {
		return Symbol{}, false
	}
	s.Takes, ok = m.list(0, "Z", 0)
	return s, ok
}

func (m *mangled) name(within int) ([]Part, bool) {
	if !m.take("N") {
		return nil, false
	}
	var l []Part
	for len(l) == 0 || !m.take("E") {
		p, ok := m.part(within)
		if !ok {
			return nil, false
		}
		l = append(l, p)
	}
	return l, true
}

func (m *mangled) part(within int) (Part, bool) {
	text, ok := m.identifier()
	if !ok || !m.take("I") {
		return Part{Text: text}, ok
	}
	args, ok := m.list(1, "E", within)
	return Part{text, args}, ok
}

func (m *mangled) identifier() (string, bool) {
	first := m.at
	long, ok := m.number()
	if !ok {
		return "", false
	}
	from := m.at
	if long == 0 || long > MaxIdent || long > len(m.text)-from {
		return "", m.fail(first)
	}
	for i := range long {
		if !fitsIdentifier(m.text[m.at], i == 0) {
			return "", false
		}
		m.at++
	}
	return m.text[from:m.at], true
}

func (m *mangled) number() (int, bool) {
	first, n := m.at, 0
	for m.at < len(m.text) && isDigit(m.text[m.at]) {
		if m.at == first+mostDigits || m.at > first && n == 0 {
			return 0, m.fail(first)
		}
		n = 10*n + int(m.text[m.at]-'0')
		m.at++
	}
	return n, m.at > first
}

// list reads types, at least so many, and the mark behind them.
func (m *mangled) list(least int, end string, within int) ([]Type, bool) {
	var l []Type
	for len(l) < least || !m.take(end) {
		t, ok := m.oneType(within)
		if !ok {
			return nil, false
		}
		l = append(l, t)
	}
	return l, true
}

// oneType reads a type that is within so many others.
func (m *mangled) oneType(within int) (Type, bool) {
	first := m.at
	if within == MaxDeep {
		return Type{}, false
	}
	if m.take("S") {
		return m.earlier(first)
	}
	m.keep()
	mark := len(m.short)
	t, ok := m.written(within + 1)
	if !ok {
		return Type{}, false
	}
	m.keep()
	spelled := string(m.short[mark:])
	if _, twice := m.numbers[spelled]; twice {
		return Type{}, m.fail(first)
	}
	n := len(m.types)
	m.short = appendEarlier(m.short[:mark], n)
	m.numbers[spelled] = n
	m.types = append(m.types, t)
	return t, true
}

// earlier reads the number of a type, behind its S at first.
func (m *mangled) earlier(first int) (Type, bool) {
	n, ok := m.number()
	if !ok || !m.take("_") {
		return Type{}, false
	}
	if n >= len(m.types) {
		return Type{}, m.fail(first)
	}
	return m.types[n], true
}

// written reads a type that is written out, and in which types are within so many others.
func (m *mangled) written(within int) (t Type, ok bool) {
	switch {
	case m.sees('N'):
		t.Kind = Plain
		t.Name, ok = m.name(within)
	case m.take("R"):
		t.Kind = Ref
		t.Of, ok = m.only(within)
	case m.take("L"):
		t.Kind = List
		t.Of, ok = m.only(within)
	case m.take("F"):
		t.Kind = Func
		t.Of, ok = m.list(1, "E", within)
	}
	return t, ok
}

// only reads a list of one type.
func (m *mangled) only(within int) ([]Type, bool) {
	t, ok := m.oneType(within)
	return []Type{t}, ok
}

// keep adds what was read meanwhile to short.
func (m *mangled) keep() {
	m.short = append(m.short, m.text[m.kept:m.at]...)
	m.kept = m.at
}
