package event

import (
	"strconv"
	"strings"

	"inquest/api"
)

const (
	mostLeast   = 100
	leastDigits = 3 // the most digits of Least
)

// The words of the places, of what rules look for there, and of what they do, each from number 1 on.

func whereWords() []string { return []string{"text", "tag", "crumb", "user", "file"} }

func findWords() []string { return []string{"all", "digits", "mail", "hex", "literal"} }

func doWords() []string { return []string{"blank", "mask", "digest"} }

// Matches tells whether a name fits a pattern, in which each * stands for any bytes.
func Matches(pattern, name string) bool {
	first, pattern, open := strings.Cut(pattern, "*")
	rest, ok := strings.CutPrefix(name, first)
	if !ok || !open {
		return ok && rest == ""
	}
	// What is between two * is taken where it is first: that leaves the most for what is behind.
	for {
		part, behind, open := strings.Cut(pattern, "*")
		if !open {
			return strings.HasSuffix(rest, part)
		}
		i := strings.Index(rest, part)
		if i < 0 {
			return false
		}
		rest, pattern = rest[i+len(part):], behind
	}
}

// CheckRules returns the first error of rules.
func CheckRules(l []Rule) api.Errno {
	if len(l) > MaxRules {
		return api.ErrLarge
	}
	for _, r := range l {
		if e := checkRule(r); e != api.OK {
			return e
		}
	}
	return api.OK
}

func checkRule(r Rule) api.Errno {
	switch {
	case r.Where < 1, r.Where > len(whereWords()), r.Find < 1, r.Find > len(findWords()), r.Do < 1, r.Do > len(doWords()):
		return api.ErrKind
	case r.named() != (r.Name != ""), !r.counts() && r.Least != 0, (r.Find == Literal) != (r.Text != ""):
		return api.ErrForm
	case len(r.Name) > api.MaxName, len(r.Text) > api.MaxName:
		return api.ErrLarge
	case !each(r.Name, func(b byte) bool { return b == '*' || inName(b) }), !each(r.Text, func(b byte) bool { return b >= 33 && b <= 126 }):
		return api.ErrByte
	case r.counts() && (r.Least < 1 || r.Least > mostLeast):
		return api.ErrRange
	}
	return api.OK
}

// named tells whether a rule looks where there are names.
func (r Rule) named() bool { return r.Where == Tags || r.Where == Crumbs }

// counts tells whether a rule looks for rows of a length.
func (r Rule) counts() bool { return r.Find == Digits || r.Find == Hexes }

// RulesText writes rules as lines.
func RulesText(l []Rule) (string, api.Errno) {
	if e := CheckRules(l); e != api.OK {
		return "", e
	}
	var b strings.Builder
	for _, r := range l {
		b.WriteString(ruleText(r) + "\n")
	}
	return b.String(), api.OK
}

func ruleText(r Rule) string {
	words := []string{whereWords()[r.Where-1]}
	if r.named() {
		words = append(words, r.Name)
	}
	words = append(words, findWords()[r.Find-1])
	if r.counts() {
		words = append(words, strconv.Itoa(r.Least))
	}
	if r.Find == Literal {
		words = append(words, r.Text)
	}
	words = append(words, doWords()[r.Do-1])
	return strings.Join(words, " ")
}

// ReadRules reads what RulesText writes; the int is the number of the line with ErrSyntax.
func ReadRules(s string) ([]Rule, int, api.Errno) {
	if len(s) > api.MaxText {
		return nil, 0, api.ErrLarge
	}
	var l []Rule
	r := &reader{rest: s}
	for r.rest != "" {
		l = append(l, readRule(r))
	}
	if r.failed {
		return nil, r.line, api.ErrSyntax
	}
	if e := CheckRules(l); e != api.OK {
		return nil, 0, e
	}
	return l, 0, api.OK
}

func readRule(r *reader) Rule {
	var rule Rule
	r.start("")
	rule.Where = r.choice(r.word(), whereWords())
	if rule.named() {
		rule.Name = r.word()
	}
	rule.Find = r.choice(r.word(), findWords())
	if rule.counts() {
		rule.Least = r.number(r.word(), leastDigits)
	}
	if rule.Find == Literal {
		rule.Text = r.word()
	}
	rule.Do = r.choice(r.end(), doWords())
	return rule
}
