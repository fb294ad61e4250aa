package name

import "inquest/api"

// Bare returns a symbol without what its name was made with, and without what it takes.
func Bare(s Symbol) (Symbol, api.Errno) {
	if e := Check(s); e != api.OK {
		return Symbol{}, e
	}
	var bare Symbol
	for _, p := range s.Name {
		bare.Name = append(bare.Name, Part{Text: p.Text})
	}
	return bare, api.OK
}

// Short returns the end of the name that a mangled name means. Another string stays as it is.
func Short(text string) string {
	s, _, e := Demangle(text)
	if e != api.OK {
		return text
	}
	last := len(s.Name) - 1
	short := s.Name[last].Text
	if last > 0 {
		short = s.Name[last-1].Text + "." + short
	}
	return short
}

// Families returns the numbers of strings that mean the same function.
func Families(l []string) ([][]int, api.Errno) {
	if len(l) > api.MaxEvents {
		return nil, api.ErrLarge
	}
	var families [][]int
	numbers := map[string]int{} // of the families, by what their strings mean
	for i, text := range l {
		means := meaning(text)
		n, ok := numbers[means]
		if !ok {
			n = len(families)
			numbers[means] = n
			families = append(families, nil)
		}
		families[n] = append(families[n], i)
	}
	return families, api.OK
}

// meaning returns the bare name of a mangled name, mangled, so that no string that is not a mangled name is equal to it. Such a string means itself.
func meaning(text string) string {
	s, _, e := Demangle(text)
	if e != api.OK {
		return text
	}
	// A symbol that was read has no errors, and neither has its bare one.
	bare, _ := Bare(s)
	means, _ := Mangle(bare)
	return means
}
