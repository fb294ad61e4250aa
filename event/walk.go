package event

// walk is what a cleaner has made so far of the part that it goes through.
type walk struct {
	by    *cleaner
	state int
	row   []*rope // what is held
	ended bool    // the row that was held before the part has ended
	head  *rope   // what that row had of the part
	in    int     // the state in which it ended
	body  []*rope
	times int
}

func (c *cleaner) walk(state int) *walk {
	return &walk{by: c, state: state, ended: state == idle}
}

func (w *walk) hold(r *rope) { w.row = append(w.row, r) }

// end ends the row that is held, in a state.
func (w *walk) end(state int) {
	row := join(w.row)
	w.row = nil
	switch {
	case !w.ended:
		w.ended, w.head, w.in = true, row, state
	case state == written:
	case state == w.by.goal && row.long >= w.by.least:
		w.body = append(w.body, w.by.put(row))
		w.times = plus(w.times, 1)
	default:
		w.body = append(w.body, row)
	}
}

// follow goes on behind a part of the part.
func (w *walk) follow(p passage) {
	w.hold(p.head)
	if p.ends {
		w.end(p.in)
		w.body = append(w.body, p.body)
		w.times = plus(w.times, p.times)
		w.hold(p.tail)
	}
	w.state = p.state
}

// passage returns what has become of the whole part.
func (w *walk) passage() passage {
	if !w.ended {
		return passage{state: w.state} // the head is the part itself
	}
	return passage{ends: true, head: w.head, in: w.in, body: join(w.body), tail: join(w.row), state: w.state, times: w.times}
}
