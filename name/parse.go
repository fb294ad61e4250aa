package name

import "inquest/api"

// Parse reads what Print writes.
func Parse(text string) (Symbol, int, api.Errno) {
	return readSymbol(text, readPrinted)
}

// printed is a printed name that is read.
type printed struct{ *input }

func readPrinted(in *input) (s Symbol, ok bool) {
	p := printed{in}
	first, ok := p.identifier()
	if !ok {
		return Symbol{}, false
	}
	if s.Name, ok = p.name(first, 0); !ok || !p.take("(") {
		return Symbol{}, false
	}
	s.Takes, ok = p.takes(0)
	return s, ok
}

func (p printed) identifier() (string, bool) {
	from := p.at
	for p.at < len(p.text) && fitsIdentifier(p.text[p.at], p.at == from) {
		p.at++
	}
	return p.text[from:p.at], p.at > from
}

// name reads a name behind its first identifier.
func (p printed) name(first string, within int) ([]Part, bool) {
	var l []Part
	for text, ok := first, true; ok; text, ok = p.identifier() {
		part := Part{Text: text}
		if p.take("<") {
			args, ok := p.list(">", within)
			if !ok {
				return nil, false
			}
			part.Args = args
		}
		l = append(l, part)
		if !p.take(".") {
			return l, true
		}
	}
	return nil, false
}

// takes reads the types that a function takes, behind the bracket.
func (p printed) takes(within int) ([]Type, bool) {
	if p.take(")") {
		return nil, true
	}
	return p.list(")", within)
}

// list reads one or more types, and the mark behind them.
func (p printed) list(end string, within int) ([]Type, bool) {
	var l []Type
	for {
		t, ok := p.oneType(within)
		if !ok {
			return nil, false
		}
		l = append(l, t)
		if p.take(end) {
			return l, true
		}
		if !p.take(", ") {
			return nil, false
		}
	}
}

// oneType reads a type that is within so many others.
func (p printed) oneType(within int) (t Type, ok bool) {
	if within == MaxDeep {
		return Type{}, false
	}
	word, ok := p.identifier()
	if !ok {
		return Type{}, false
	}
	switch word {
	case refWord:
		t.Kind = Ref
		t.Of, ok = p.last(nil, within+1)
	case listWord:
		t.Kind = List
		t.Of, ok = p.last(nil, within+1)
	case funcWord:
		t.Kind = Func
		t.Of, ok = p.function(within + 1)
	default:
		t.Kind = Plain
		t.Name, ok = p.name(word, within+1)
	}
	return t, ok
}

// function reads what a function takes and gives.
func (p printed) function(within int) ([]Type, bool) {
	if !p.take("(") {
		return nil, false
	}
	takes, ok := p.takes(within)
	if !ok {
		return nil, false
	}
	return p.last(takes, within)
}

// last reads a space and a type, and puts this behind others.
func (p printed) last(l []Type, within int) ([]Type, bool) {
	if !p.take(" ") {
		return nil, false
	}
	t, ok := p.oneType(within)
	return append(l, t), ok
}
