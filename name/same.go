package name

// Same tells whether all of two symbols is equal. They may have errors.
func Same(a, b Symbol) bool {
	type pair struct{ a, b []Type }
	type place struct {
		a, b *Type
		long int
	}
	// Lists that are still to be compared wait in a list, since types may lie within one another too deep for calls. Those that were met are not compared again, since lists may have one another many times, or themselves.
	var waiting []pair
	met := map[place]bool{}
	sameTypes := func(a, b []Type) bool {
		if len(a) == 0 || len(a) != len(b) {
			return len(a) == len(b)
		}
		at := place{&a[0], &b[0], len(a)}
		if !met[at] {
			met[at] = true
			waiting = append(waiting, pair{a, b})
		}
		return true
	}
	sameNames := func(a, b []Part) bool {
		if len(a) != len(b) {
			return false
		}
		for i, p := range a {
			if p.Text != b[i].Text || !sameTypes(p.Args, b[i].Args) {
				return false
			}
		}
		return true
	}
	if !sameNames(a.Name, b.Name) || !sameTypes(a.Takes, b.Takes) {
		return false
	}
	for len(waiting) > 0 {
		next := waiting[len(waiting)-1]
		waiting = waiting[:len(waiting)-1]
		for i, t := range next.a {
			u := next.b[i]
			if t.Kind != u.Kind || !sameNames(t.Name, u.Name) || !sameTypes(t.Of, u.Of) {
				return false
			}
		}
	}
	return true
}
