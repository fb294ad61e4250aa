package name

import (
	"strconv"

	"inquest/api"
)

// Mangle writes a symbol as linkers know it.
func Mangle(s Symbol) (string, api.Errno) {
	if e := Check(s); e != api.OK {
		return "", e
	}
	numbers := map[string]int{} // of the types that were written out, by how they are spelled
	var write func(b []byte, t Type) []byte
	write = func(b []byte, t Type) []byte {
		spelled := string(spell(nil, t))
		if n, ok := numbers[spelled]; ok {
			return appendEarlier(b, n)
		}
		b = appendType(b, t, write)
		n := len(numbers)
		numbers[spelled] = n
		return b
	}
	b := appendName([]byte{'Q'}, s.Name, write)
	b = appendTypes(b, s.Takes, 'Z', write)
	return bounded(b)
}

// spell writes a type with all that is in it written out, so that just equal types are spelled alike.
func spell(b []byte, t Type) []byte { return appendType(b, t, spell) }

// appendType writes a type out, and the types in it with a function.
func appendType(b []byte, t Type, write func([]byte, Type) []byte) []byte {
	switch t.Kind {
	case Plain:
		return appendName(b, t.Name, write)
	case Ref:
		return write(append(b, 'R'), t.Of[0])
	case List:
		return write(append(b, 'L'), t.Of[0])
	}
	return appendTypes(append(b, 'F'), t.Of, 'E', write)
}

func appendName(b []byte, l []Part, write func([]byte, Type) []byte) []byte {
	b = append(b, 'N')
	for _, p := range l {
		b = strconv.AppendInt(b, int64(len(p.Text)), 10)
		b = append(b, p.Text...)
		if len(p.Args) > 0 {
			b = appendTypes(append(b, 'I'), p.Args, 'E', write)
		}
	}
	return append(b, 'E')
}

func appendTypes(b []byte, l []Type, end byte, write func([]byte, Type) []byte) []byte {
	for _, t := range l {
		b = write(b, t)
	}
	return append(b, end)
}

// appendEarlier writes the number of a type that was written out.
func appendEarlier(b []byte, n int) []byte {
	b = strconv.AppendInt(append(b, 'S'), int64(n), 10)
	return append(b, '_')
}

// bounded returns what was written, if a reader takes as much.
func bounded(b []byte) (string, api.Errno) {
	if len(b) > MaxSymbol {
		return "", api.ErrLarge
	}
	return string(b), api.OK
}
