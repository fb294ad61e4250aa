package group

import (
	"strings"

	"inquest/api"
	"inquest/event"
)

const keyPart = "key" // stands ahead of a key, in its parts

// Plain returns a string without what differs from event to event: addresses, numbers and quoted strings.
func Plain(s string) string {
	var b strings.Builder
	for s != "" {
		plain, long := plainly(s)
		b.WriteString(plain)
		s = s[long:]
	}
	return b.String()
}

// plainly returns what stands for the beginning of a string, and how many bytes of it that is for.
func plainly(s string) (string, int) {
	const mark = "0x"
	if digits, ok := strings.CutPrefix(s, mark); ok {
		if n := row(digits, isAnyHex); n > 0 {
			return "<a>", len(mark) + n
		}
	}
	if n := row(s, isDigit); n > 0 {
		return "<n>", n
	}
	if s[0] == '"' {
		if n := strings.IndexByte(s[1:], '"'); n >= 0 {
			return "<s>", n + 2
		}
	}
	return s[:1], 1
}

// row returns how many bytes at the beginning of a string are as told.
func row(s string, is func(b byte) bool) int {
	n := 0
	for n < len(s) && is(s[n]) {
		n++
	}
	return n
}

func isDigit(b byte) bool { return b >= '0' && b <= '9' }

func isHex(b byte) bool { return isDigit(b) || b >= 'a' && b <= 'f' }

func isAnyHex(b byte) bool { return isHex(b) || b >= 'A' && b <= 'F' }

// Parts returns what counts of faults.
func Parts(l []Rule, faults []api.Fault) ([]string, api.Errno) {
	marked, key, e := Mark(l, faults)
	if e != api.OK {
		return nil, e
	}
	if key != "" {
		return []string{keyPart, key}, api.OK
	}
	var parts []string
	for i, fault := range faults {
		parts = append(parts, frameParts(fault.Kind, marked[i])...)
	}
	if len(parts) == 0 {
		for _, fault := range faults {
			parts = append(parts, fault.Kind, Plain(fault.Text))
		}
	}
	return parts, api.OK
}

// frameParts returns the parts of a fault that has shown frames.
func frameParts(kind string, l []Marked) []string {
	var parts []string
	for _, m := range l {
		if !m.Shown {
			continue
		}
		if len(parts) == 0 {
			parts = append(parts, kind)
		}
		parts = append(parts, m.Frame.Module+"!"+m.Frame.Func)
	}
	return parts
}

// Digest returns the sum of parts, with a byte 0 behind each one.
func Digest(parts []string) string {
	var b strings.Builder
	for _, part := range parts {
		b.WriteString(part)
		b.WriteByte(0)
	}
	return event.Sum(b.String())
}

// Print returns the digest of what counts of faults.
func Print(l []Rule, faults []api.Fault) (string, api.Errno) {
	parts, e := Parts(l, faults)
	if e != api.OK {
		return "", e
	}
	return Digest(parts), api.OK
}
