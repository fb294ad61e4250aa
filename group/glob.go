package group

import "strings"

// Fits tells whether a string fits a pattern, in which * stands for any bytes and ? for one.
func Fits(glob, s string) bool {
	if len(glob) > MaxGlob {
		return false
	}
	g, i := 0, 0
	behind, next := -1, 0 // behind the last * there is no need for earlier ones to have other bytes
	for i < len(s) {
		switch {
		case g < len(glob) && glob[g] == '*':
			g++
			behind, next = g, i
		case g < len(glob) && (glob[g] == '?' || glob[g] == s[i]):
			g++
			i++
		case behind >= 0:
			next++
			g, i = behind, next
		default:
			return false
		}
	}
	return strings.Trim(glob[g:], "*") == ""
}
