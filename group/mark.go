package group

import (
	"cmp"

	"inquest/api"
	"inquest/stack"
)

// mark is a frame as the rules so far have marked it.
type mark struct {
	Marked
	told bool // a rule has said whether it is Shown
}

// view is what the rules so far have made of faults.
type view struct {
	faults []api.Fault
	marks  [][]mark // of the frames of each fault
	most   int      // frames of a fault that stay Shown
	key    string
}

// deed is what acts of a kind do, with the frames for which their rule holds.
type deed struct {
	word string // of the text of a rule
	do   func(v *view, held []*mark, a Act)
}

// deeds are what rules do, from MakeOwn on.
func deeds() []deed {
	return []deed{
		{"own", each(func(m *mark) { m.Own = true })},
		{"-own", each(func(m *mark) { m.Own = false })},
		{"hide", each(func(m *mark) { m.Shown, m.told = false, true })},
		{"show", each(func(m *mark) { m.Shown, m.told = true, true })},
		{"most=", func(v *view, _ []*mark, a Act) { v.most = a.N }},
		{"key=", func(v *view, _ []*mark, a Act) { v.key = a.Text }},
	}
}

func each(change func(m *mark)) func(v *view, held []*mark, a Act) {
	return func(_ *view, held []*mark, _ Act) {
		for _, m := range held {
			change(m)
		}
	}
}

// Mark returns the frames of each fault as rules mark them, and the key, which is empty if no rule sets one.
func Mark(l []Rule, faults []api.Fault) ([][]Marked, string, api.Errno) {
	if e := cmp.Or(CheckRules(l), stack.Check(faults)); e != api.OK {
		return nil, "", e
	}
	v := viewOf(faults)
	does := deeds()
	for _, r := range l {
		held, counts := v.held(r)
		if !counts {
			continue
		}
		for _, a := range r.Then {
			does[a.Do-MakeOwn].do(v, held, a)
		}
	}
	return v.marked(), v.key, api.OK
}

func viewOf(faults []api.Fault) *view {
	v := &view{faults: faults, most: api.MaxFrames}
	for _, fault := range faults {
		var marks []mark
		for _, frame := range fault.Frames {
			marks = append(marks, mark{Marked: Marked{Frame: frame, Own: frame.Own}})
		}
		v.marks = append(v.marks, marks)
	}
	return v
}

// held returns the frames for which a rule holds, and whether it holds for one, or for a fault without asking for frames.
func (v *view) held(r Rule) ([]*mark, bool) {
	ofFault, ofFrame := divide(r.If)
	var held []*mark
	counts := false
	for i, fault := range v.faults {
		if !holds(ofFault, fault, mark{}) {
			continue
		}
		counts = len(ofFrame) == 0
		for j, m := range v.marks[i] {
			if holds(ofFrame, fault, m) {
				held = append(held, &v.marks[i][j])
			}
		}
	}
	return held, counts || len(held) > 0
}

// divide tells matchers that look at faults from those that look at frames, so that the long texts of faults are looked at once.
func divide(l []Match) (ofFault, ofFrame []Match) {
	for _, m := range l {
		if m.On == Kind || m.On == Say {
			ofFault = append(ofFault, m)
		} else {
			ofFrame = append(ofFrame, m)
		}
	}
	return ofFault, ofFrame
}

func holds(l []Match, fault api.Fault, m mark) bool {
	_, fails := find(l, func(match Match) bool { return match.is(fault, m) == match.Not })
	return !fails
}

// is tells whether what a matcher looks at is so, without regard to Not.
func (m Match) is(fault api.Fault, at mark) bool {
	switch m.On {
	case Func:
		return Fits(m.Glob, at.Frame.Func)
	case Module:
		return Fits(m.Glob, at.Frame.Module)
	case File:
		return Fits(m.Glob, at.Frame.File)
	case Kind:
		return Fits(m.Glob, fault.Kind)
	case Say:
		return Fits(m.Glob, fault.Text)
	}
	return at.Own
}

// marked returns the frames once all rules have been gone through.
func (v *view) marked() [][]Marked {
	all := make([][]Marked, len(v.marks))
	for i, marks := range v.marks {
		_, someOwn := find(marks, func(m mark) bool { return m.Own })
		shown := 0
		for _, m := range marks {
			if !m.told {
				m.Shown = m.Own || !someOwn
			}
			m.Shown = m.Shown && shown < v.most
			if m.Shown {
				shown++
			}
			all[i] = append(all[i], m.Marked)
		}
	}
	return all
}
