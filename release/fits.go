package release

import "strings"

const wordBits = 64

// glob is a pattern taken apart: its bytes one by one, and how many * stand before each of them, and behind the last one.
type glob struct {
	bytes []byte
	stars []int
}

func readGlob(pattern string) glob {
	g := glob{stars: []int{0}}
	for i := range len(pattern) {
		if pattern[i] == '*' {
			g.stars[len(g.bytes)]++
			continue
		}
		g.bytes = append(g.bytes, pattern[i])
		g.stars = append(g.stars, 0)
	}
	if strings.HasSuffix(pattern, "/") {
		g.stars[len(g.bytes)] = 2
	}
	return g
}

// step tells where a byte of a path leads from places of a pattern, a bit each: from which ones to the next one, and which ones it may stay at.
type step struct{ on, stay uint64 }

func (g glob) words() int { return len(g.stars)/wordBits + 1 }

func (g glob) steps(b byte) []step {
	l := make([]step, g.words())
	for place, stars := range g.stars {
		word, bit := &l[place/wordBits], uint64(1)<<(place%wordBits)
		if place < len(g.bytes) && (g.bytes[place] == b || g.bytes[place] == '?' && b != '/') {
			word.on |= bit
		}
		if stars > 1 || stars == 1 && b != '/' {
			word.stay |= bit
		}
	}
	return l
}

// front has a bit for each place of a pattern to which a path leads. Words before low and from high on have none, so that few places are few steps in long patterns, too.
type front struct {
	bits      []uint64
	low, high int
}

// begin adds the first place.
func (f *front) begin() {
	f.bits[0] |= 1
	f.low, f.high = 0, max(f.high, 1)
}

// follow goes on by the steps of a byte.
func (f *front) follow(l []step) {
	f.high = min(f.high+1, len(f.bits))
	carry := uint64(0)
	for i := f.low; i < f.high; i++ {
		on := f.bits[i] & l[i].on
		f.bits[i] = f.bits[i]&l[i].stay | on<<1 | carry
		carry = on >> (wordBits - 1)
	}
	for f.high > f.low && f.bits[f.high-1] == 0 {
		f.high--
	}
	for f.low < f.high && f.bits[f.low] == 0 {
		f.low++
	}
}

func (f *front) has(place int) bool { return f.bits[place/wordBits]>>(place%wordBits)&1 == 1 }

// Fits tells whether a path fits a pattern. All places of the pattern to which the path can lead are followed at once: what is behind a * can be tried at each byte.
func Fits(pattern, path string) bool {
	g := readGlob(pattern)
	f := front{bits: make([]uint64, g.words())}
	f.begin()
	anywhere := !strings.Contains(strings.TrimSuffix(pattern, "/"), "/")
	steps := map[byte][]step{}
	for i := range len(path) {
		b := path[i]
		if steps[b] == nil {
			steps[b] = g.steps(b)
		}
		f.follow(steps[b])
		if anywhere && b == '/' {
			f.begin()
		}
		if f.low == f.high && !anywhere {
			return false
		}
	}
	return f.has(len(g.bytes))
}
