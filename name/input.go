package name

import "inquest/api"

// input is a text that is read from left to right. When a function that reads it returns false, at is the offset of the error.
type input struct {
	text string
	at   int
}

// sees tells whether the next byte is b.
func (in *input) sees(b byte) bool {
	return in.at < len(in.text) && in.text[in.at] == b
}

// take goes on behind a mark, or to its first byte that is not there.
func (in *input) take(mark string) bool {
	for i := range len(mark) {
		if !in.sees(mark[i]) {
			return false
		}
		in.at++
	}
	return true
}

// fail says where the error is, if it is not at the next byte.
func (in *input) fail(at int) bool {
	in.at = at
	return false
}

// readSymbol reads a text that has a symbol, and nothing behind it.
func readSymbol(text string, read func(in *input) (Symbol, bool)) (Symbol, int, api.Errno) {
	if len(text) > MaxSymbol {
		return Symbol{}, 0, api.ErrLarge
	}
	in := &input{text: text}
	s, ok := read(in)
	if !ok || in.at < len(text) {
		return Symbol{}, in.at, api.ErrSyntax
	}
	if e := Check(s); e != api.OK {
		return Symbol{}, 0, e
	}
	return Symbol{copyName(s.Name), copyTypes(s.Takes)}, 0, api.OK
}

// The types of a symbol that was read may lie in it several times: before they are copied, Check tells that they are not too many.

func copyTypes(l []Type) []Type {
	var r []Type
	for _, t := range l {
		r = append(r, Type{t.Kind, copyName(t.Name), copyTypes(t.Of)})
	}
	return r
}

func copyName(l []Part) []Part {
	var r []Part
	for _, p := range l {
		r = append(r, Part{p.Text, copyTypes(p.Args)})
	}
	return r
}
