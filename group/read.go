package group

import (
	"strconv"
	"strings"

	"inquest/api"
)

const mostDigits = 3 // the most digits of a number

// ReadRules reads what RulesText writes; the int is the number of the line with ErrSyntax.
func ReadRules(s string) ([]Rule, int, api.Errno) {
	if len(s) > api.MaxText {
		return nil, 0, api.ErrLarge
	}
	var l []Rule
	for s != "" {
		line, rest, ended := strings.Cut(s, "\n")
		rule, ok := readRule(line)
		if !ended || !ok {
			return nil, len(l) + 1, api.ErrSyntax
		}
		l = append(l, rule)
		s = rest
	}
	if e := CheckRules(l); e != api.OK {
		return nil, 0, e
	}
	return l, 0, api.OK
}

func readRule(line string) (Rule, bool) {
	var rule Rule
	r := &reader{rest: line}
	for !r.failed && !r.skip(arrow) {
		rule.If = append(rule.If, r.match())
		r.expect(" ")
	}
	for r.rest != "" {
		r.expect(" ")
		rule.Then = append(rule.Then, r.act())
	}
	return rule, !r.failed
}

// reader goes through a line. Once something is not as expected nothing is left to read.
type reader struct {
	rest   string
	failed bool
}

func (r *reader) fail() { r.rest, r.failed = "", true }

// skip goes on behind a mark, if it is next.
func (r *reader) skip(mark string) bool {
	rest, ok := strings.CutPrefix(r.rest, mark)
	if ok {
		r.rest = rest
	}
	return ok
}

func (r *reader) expect(mark string) {
	if !r.skip(mark) {
		r.fail()
	}
}

func (r *reader) match() Match {
	m := Match{Not: r.skip("!")}
	i, ok := find(matchWords(), r.skip)
	if !ok {
		r.fail()
		return m
	}
	m.On = Func + i
	if m.On != Own {
		m.Glob = r.quoted()
	}
	return m
}

func (r *reader) act() Act {
	i, ok := find(deeds(), func(d deed) bool { return r.skip(d.word) })
	if !ok {
		r.fail()
		return Act{}
	}
	a := Act{Do: MakeOwn + i}
	switch a.Do {
	case Most:
		a.N = r.number()
	case Key:
		a.Text = r.quoted()
	}
	return a
}

// number goes up to the next space. strconv takes signs and zeros ahead, too.
func (r *reader) number() int {
	s, _, _ := strings.Cut(r.rest, " ")
	n, err := strconv.Atoi(s)
	if len(s) > mostDigits || err != nil || n < 0 || strconv.Itoa(n) != s {
		r.fail()
		return 0
	}
	r.rest = r.rest[len(s):]
	return n
}

// quoted goes up to the mark that ends a quoted string.
func (r *reader) quoted() string {
	r.expect(`"`)
	var b strings.Builder
	for r.rest != "" {
		if r.skip(`"`) {
			return b.String()
		}
		if r.skip(`\`) && (r.rest == "" || r.rest[0] != '"' && r.rest[0] != '\\') {
			break
		}
		b.WriteByte(r.rest[0])
		r.rest = r.rest[1:]
	}
	r.fail()
	return ""
}
