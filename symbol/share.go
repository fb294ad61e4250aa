package symbol

import (
	"cmp"
	"maps"
	"slices"
	"strconv"
	"strings"

	"inquest/api"
)

// Shares returns how many bytes each name has, the greatest number first.
func Shares(t Table) ([]Share, api.Errno) {
	if e := CheckTable(t); e != api.OK {
		return nil, e
	}
	bytes := funcBytes(t)
	for i, c := range t.Calls {
		bytes[nameAround(t, i)] -= c.To - c.From
		bytes[c.Name] += c.To - c.From
	}
	var shares []Share
	for name, n := range bytes {
		if n > 0 {
			shares = append(shares, Share{name, n})
		}
	}
	slices.SortFunc(shares, func(a, b Share) int {
		return cmp.Or(cmp.Compare(b.Bytes, a.Bytes), strings.Compare(a.Name, b.Name))
	})
	return shares, api.OK
}

// nameAround returns the name of what a call was written into: of the last earlier call that has its offsets, or the function.
func nameAround(t Table, call int) string {
	from := t.Calls[call].From
	for i := call - 1; i >= 0; i-- {
		if t.Calls[i].To > from {
			return t.Calls[i].Name
		}
	}
	i, _ := FuncAt(t, from)
	return t.Funcs[i].Name
}

// Differ tells which names of functions came, went, and have another number of bytes.
func Differ(a, b Table) ([]string, api.Errno) {
	for _, t := range [...]Table{a, b} {
		if e := CheckTable(t); e != api.OK {
			return nil, e
		}
	}
	before, after := funcBytes(a), funcBytes(b)
	names := slices.AppendSeq(slices.Collect(maps.Keys(before)), maps.Keys(after))
	slices.Sort(names)
	var lines []string
	for _, name := range slices.Compact(names) {
		// No function has 0 bytes, so 0 is a name that is not there.
		switch m, n := before[name], after[name]; {
		case m == 0:
			lines = append(lines, "+ "+name+" "+strconv.Itoa(n))
		case n == 0:
			lines = append(lines, "- "+name+" "+strconv.Itoa(m))
		case m != n:
			lines = append(lines, "~ "+name+" "+strconv.Itoa(m)+" "+strconv.Itoa(n))
		}
	}
	return lines, api.OK
}

// funcBytes counts the bytes of all functions of each name.
func funcBytes(t Table) map[string]int {
	bytes := map[string]int{}
	for _, f := range t.Funcs {
		bytes[f.Name] += f.To - f.From
	}
	return bytes
}
