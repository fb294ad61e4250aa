package event

import (
	"math"
	"strings"

	"inquest/api"
)

// rope is a string that may be longer than any memory: what is in it many times is a part many times, and lies in memory once. The empty one is nil.
type rope struct {
	text   string // all of it, if it has no parts
	parts  []*rope
	long   int    // how many bytes it has; math.MaxInt stands for more, too
	factor uint64 // what a sum that goes on over it is multiplied by
}

// ropeOf returns a rope without parts.
func ropeOf(text string) *rope {
	if text == "" {
		return nil
	}
	r := &rope{text: text, long: len(text), factor: 1}
	for range len(text) {
		r.factor *= sumFactor
	}
	return r
}

// join returns ropes one behind the other.
func join(l []*rope) *rope {
	r := &rope{factor: 1}
	for _, part := range l {
		if part != nil {
			r.parts = append(r.parts, part)
			r.long = plus(r.long, part.long)
			r.factor *= part.factor
		}
	}
	switch len(r.parts) {
	case 0:
		return nil
	case 1:
		return r.parts[0]
	}
	return r
}

// plus adds numbers that are not below 0; math.MaxInt stands for sums that are greater, too.
func plus(a, b int) int {
	if a > math.MaxInt-b {
		return math.MaxInt
	}
	return a + b
}

// fits tells whether there is a place in an event that may have so long a string.
func (r *rope) fits() bool { return r == nil || r.long <= api.MaxSay }

// short returns the string of a rope that is not too long for that.
func (r *rope) short() string {
	var b strings.Builder
	r.write(&b)
	return b.String()
}

func (r *rope) write(b *strings.Builder) {
	if r == nil {
		return
	}
	b.WriteString(r.text)
	for _, part := range r.parts {
		part.write(b)
	}
}

// masker knows the masks of ropes with parts.
type masker map[*rope]*rope

// mask returns as many * as a rope has bytes.
func (m masker) mask(r *rope) *rope {
	if len(r.parts) == 0 {
		return ropeOf(strings.Repeat("*", len(r.text)))
	}
	masked, known := m[r]
	if !known {
		var parts []*rope
		for _, part := range r.parts {
			parts = append(parts, m.mask(part))
		}
		masked = join(parts)
		m[r] = masked
	}
	return masked
}
