package name

import "inquest/api"

// The words with which types begin that are not plain.
const (
	refWord  = "ref"
	listWord = "list"
	funcWord = "func"
)

// Print writes a symbol for people.
func Print(s Symbol) (string, api.Errno) {
	if e := Check(s); e != api.OK {
		return "", e
	}
	misread := false // whether a plain type would be read as one of another kind
	var write func(b []byte, t Type) []byte
	write = func(b []byte, t Type) []byte {
		misread = misread || t.Kind == Plain && isWord(t.Name[0].Text)
		return printType(b, t, write)
	}
	b := printName(nil, s.Name, write)
	b = append(printTypes(append(b, '('), s.Takes, write), ')')
	if misread {
		return "", api.ErrName
	}
	return bounded(b)
}

func isWord(s string) bool {
	return s == refWord || s == listWord || s == funcWord
}

// printType writes a type, and the types in it with a function.
func printType(b []byte, t Type, write func([]byte, Type) []byte) []byte {
	switch t.Kind {
	case Plain:
		return printName(b, t.Name, write)
	case Ref:
		return write(append(b, refWord+" "...), t.Of[0])
	case List:
		return write(append(b, listWord+" "...), t.Of[0])
	}
	last := len(t.Of) - 1
	b = printTypes(append(b, funcWord+"("...), t.Of[:last], write)
	return write(append(b, ") "...), t.Of[last])
}

func printName(b []byte, l []Part, write func([]byte, Type) []byte) []byte {
	for i, p := range l {
		if i > 0 {
			b = append(b, '.')
		}
		b = append(b, p.Text...)
		if len(p.Args) > 0 {
			b = append(printTypes(append(b, '<'), p.Args, write), '>')
		}
	}
	return b
}

func printTypes(b []byte, l []Type, write func([]byte, Type) []byte) []byte {
	for i, t := range l {
		if i > 0 {
			b = append(b, ", "...)
		}
		b = write(b, t)
	}
	return b
}
