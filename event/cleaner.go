package event

import "strings"

// cleaner is a rule at work. It goes through a string from state to state, and holds a row of bytes for as long as that can still become what it looks for.
//
// Digests of what is in digests make strings that are too long to go through them byte by byte. But what becomes of a part of a string depends only on the state before it: so a part that comes again is gone through once.
type cleaner struct {
	finder
	put   func(row *rope) *rope // what comes in the place of a row
	known map[visit]passage
}

// visit is a part of a string that a cleaner comes to.
type visit struct {
	part  *rope  // if it has parts itself
	text  string // if not
	state int    // before the part
}

// passage is what becomes of a part.
type passage struct {
	ends  bool  // the row that is held before the part ends in it; otherwise all of the part is its head
	head  *rope // what that row has of the part
	in    int   // the state in which it ends
	body  *rope // what becomes of what is behind it
	tail  *rope // the row that is held behind the part
	state int   // behind the part
	times int   // how often something was found in the body
}

// idle is the state in which nothing is held.
const idle = 0

// written is the state in which rows end that have become a part of the body behind them.
const written = -1

func newCleaner(r Rule) *cleaner {
	c := &cleaner{finder: finderOf(r), known: map[visit]passage{}}
	switch r.Do {
	case Blank:
		c.put = func(*rope) *rope { return nil }
	case Mask:
		c.put = masker{}.mask
	case Digest:
		sums := summer{}
		c.put = func(row *rope) *rope { return ropeOf(sumText(sums.on(sumStart, row))) }
	}
	return c
}

// clear returns a string without what is found in it, and how often something is.
func (c *cleaner) clear(r *rope) (*rope, int) {
	if r == nil {
		return nil, 0
	}
	w := walk{by: c, ended: true}
	w.follow(c.pass(r, c.first))
	w.end(w.state)
	if w.times == 0 {
		return r, 0
	}
	left := join(w.body)
	if left.fits() {
		left = ropeOf(left.short()) // one text takes less time than many parts
	}
	return left, w.times
}

// pass goes through a part, if it has not yet done so.
func (c *cleaner) pass(r *rope, state int) passage {
	v := visit{part: r, state: state}
	if len(r.parts) == 0 {
		v.part, v.text = nil, r.text
	}
	p, known := c.known[v]
	if known {
		return p
	}
	switch {
	case len(r.parts) > 0:
		p = c.passParts(r.parts, state)
	case c.literal != "":
		p = c.passLiterals(r.text, state)
	default:
		p = c.passRows(r.text, state)
	}
	// What does not change stays the same part, so that it is known later.
	if !p.ends {
		p.head = r
	} else if state == idle && p.times == 0 && p.tail == nil {
		p.body = r
	}
	c.known[v] = p
	return p
}

func (c *cleaner) passParts(l []*rope, state int) passage {
	w := c.walk(state)
	for _, part := range l {
		w.follow(c.pass(part, w.state))
	}
	return w.passage()
}

// passRows goes through a text byte by byte.
func (c *cleaner) passRows(text string, state int) passage {
	w := c.walk(state)
	from := 0
	for i := range len(text) {
		to := c.step(w.state, text[i])
		if (w.state == idle) != (to == idle) {
			w.hold(ropeOf(text[from:i]))
			w.end(w.state)
			from = i
		}
		w.state = to
	}
	w.hold(ropeOf(text[from:]))
	if w.state == idle {
		w.end(idle)
	}
	return w.passage()
}

// passLiterals goes through a text. What is held has as many bytes of the literal as the state says, so that it need not be known.
func (c *cleaner) passLiterals(text string, state int) passage {
	w := walk{by: c, ended: true, in: written}
	rest := c.literal[:state] + text
	for {
		before, behind, found := strings.Cut(rest, c.literal)
		if !found {
			break
		}
		w.body = append(w.body, ropeOf(before), c.put(ropeOf(c.literal)))
		w.times++
		rest = behind
	}
	w.state = c.begun(rest)
	done := len(rest) - w.state
	w.body = append(w.body, ropeOf(rest[:done]))
	w.hold(ropeOf(rest[done:]))
	return w.passage()
}
