package group

import (
	"strconv"
	"strings"

	"inquest/api"
)

const arrow = "->" // between what a rule asks and what it does

// matchWords are what matchers look at, from Func on.
func matchWords() []string {
	return []string{"func:", "module:", "file:", "kind:", "say:", "own"}
}

// RulesText writes rules as lines.
func RulesText(l []Rule) (string, api.Errno) {
	if e := CheckRules(l); e != api.OK {
		return "", e
	}
	var b strings.Builder
	for _, r := range l {
		b.WriteString(ruleText(r) + "\n")
	}
	return b.String(), api.OK
}

func ruleText(r Rule) string {
	var words []string
	for _, m := range r.If {
		words = append(words, matchText(m))
	}
	words = append(words, arrow)
	for _, a := range r.Then {
		words = append(words, actText(a))
	}
	return strings.Join(words, " ")
}

func matchText(m Match) string {
	text := matchWords()[m.On-Func]
	if m.Not {
		text = "!" + text
	}
	if m.On != Own {
		text += quote(m.Glob)
	}
	return text
}

func actText(a Act) string {
	text := deeds()[a.Do-MakeOwn].word
	switch a.Do {
	case Most:
		text += strconv.Itoa(a.N)
	case Key:
		text += quote(a.Text)
	}
	return text
}

func quote(s string) string {
	s = strings.ReplaceAll(s, `\`, `\\`)
	return `"` + strings.ReplaceAll(s, `"`, `\"`) + `"`
}
