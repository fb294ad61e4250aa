package stack

import (
	"slices"
	"strconv"
	"strings"

	"inquest/api"
)

// The most digits of numbers in traces.
const (
	lineDigits = 7
	addrDigits = 12
	moreDigits = 3
)

// trace is a text whose lines are read one by one.
type trace struct {
	rest string // what has not been read
	line int    // the number of the line that was asked for last
}

func (t *trace) done() bool { return t.rest == "" }

// begins tells whether the next line begins with a mark.
func (t *trace) begins(mark string) bool { return strings.HasPrefix(t.rest, mark) }

// next goes on to the next line and returns what is behind its mark; false: it is missing, has another beginning or no end.
func (t *trace) next(mark string) (string, bool) {
	t.line++
	line, rest, ended := strings.Cut(t.rest, "\n")
	behind, marked := strings.CutPrefix(line, mark)
	if !ended || !marked {
		return "", false
	}
	t.rest = rest
	return behind, true
}

// nextIs goes on to the next line and tells whether it is just this one.
func (t *trace) nextIs(line string) bool {
	behind, ok := t.next(line)
	return ok && behind == ""
}

func (t *trace) nextFault(mark string) (api.Fault, bool) {
	s, ok := t.next(mark)
	if !ok {
		return api.Fault{}, false
	}
	kind, said, ended := strings.Cut(s, ":")
	text, spaced := strings.CutPrefix(said, " ")
	if !ended || !isWord(kind, notInKind) || said != "" && (!spaced || text == "") {
		return api.Fault{}, false
	}
	return api.Fault{Kind: kind, Text: text}, true
}

func (t *trace) nextFrame(mark string) (api.Frame, bool) {
	s, ok := t.next(mark)
	if !ok {
		return api.Frame{}, false
	}
	call, rest := splitAtSpace(s)
	frame, ok := readCall(call)
	if !ok {
		return api.Frame{}, false
	}
	return readRest(frame, rest)
}

func (t *trace) nextMore() (int, bool) {
	s, ok := t.next(moreMark)
	digits, ended := strings.CutSuffix(s, moreEnd)
	if !ok || !ended {
		return 0, false
	}
	return readNumber(digits, 10, moreDigits)
}

func (t *trace) nextPair() (api.Frame, bool) {
	call, ok := t.next("")
	if !ok {
		return api.Frame{}, false
	}
	frame, ok := readCall(call)
	if !ok {
		return api.Frame{}, false
	}
	rest, ok := t.next(placeMark)
	if !ok {
		return api.Frame{}, false
	}
	if rest != "" {
		rest = " " + rest
	}
	return readRest(frame, rest)
}

func readInner(t *trace) ([]api.Fault, bool) {
	var l []api.Fault
	var row []api.Frame // of the fault before, the outermost frame first: what the next fault shares stays in its place
	mark := ""
	for {
		fault, ok := t.nextFault(mark)
		if !ok {
			return nil, false
		}
		row, ok = readInnerFrames(t, row)
		if !ok {
			return nil, false
		}
		// One fault too many is enough for Check: all of them could have a thousand times as many frames as there are lines.
		if len(l) <= api.MaxFaults {
			fault.Frames = slices.Clone(row)
			slices.Reverse(fault.Frames)
			l = append(l, fault)
		}
		if t.done() {
			return l, true
		}
		mark = causeMark
	}
}

// readInnerFrames reads the lines behind the first one of a fault, and makes the row of the fault before it the one of this fault.
func readInnerFrames(t *trace, row []api.Frame) ([]api.Frame, bool) {
	head := t.line
	frames, more, left, ok := readInnerLines(t)
	if !ok || left && (more < leastShared || more > len(row)) {
		return nil, false
	}
	slices.Reverse(frames)
	shared := 0
	for shared < len(frames) && more+shared < len(row) && frames[shared] == row[more+shared] {
		shared++
	}
	if left && shared > 0 {
		return nil, false
	}
	if shared >= leastShared {
		t.line = head + 1 + len(frames) - shared
		return nil, false
	}
	return append(row[:more], frames...), true
}

// readInnerLines reads the lines of a fault up to the first other line; left tells whether frames were left out, and more how many.
func readInnerLines(t *trace) (frames []api.Frame, more int, left, ok bool) {
lines:
	for {
		switch {
		case t.begins(atMark):
			frame, ok := t.nextFrame(atMark)
			if !ok || left {
				return nil, 0, false, false
			}
			frames = append(frames, frame)
		case t.begins(moreMark):
			n, ok := t.nextMore()
			if !ok || left {
				return nil, 0, false, false
			}
			more, left = n, true
		default:
			break lines
		}
	}
	return frames, more, left, true
}

func readOuter(t *trace) ([]api.Fault, bool) {
	var l []api.Fault
	for {
		if !t.nextIs(traceLine) {
			return nil, false
		}
		var frames []api.Frame
		for t.begins(frameMark) {
			frame, ok := t.nextFrame(frameMark)
			if !ok {
				return nil, false
			}
			frames = append(frames, frame)
		}
		fault, ok := t.nextFault("")
		if !ok {
			return nil, false
		}
		slices.Reverse(frames)
		fault.Frames = frames
		l = append(l, fault)
		if t.done() {
			slices.Reverse(l)
			return l, true
		}
		if !t.nextIs(thenLine) {
			return nil, false
		}
	}
}

func readPairs(t *trace) ([]api.Fault, bool) {
	var l []api.Fault
	for {
		fault, ok := t.nextFault(faultMark)
		if !ok {
			return nil, false
		}
		for !t.done() && !t.begins(faultMark) {
			frame, ok := t.nextPair()
			if !ok {
				return nil, false
			}
			fault.Frames = append(fault.Frames, frame)
		}
		l = append(l, fault)
		if t.done() {
			return l, true
		}
	}
}

func readCall(s string) (api.Frame, bool) {
	module, call, found := strings.Cut(s, "!")
	if !found {
		return api.Frame{Func: s}, isWord(s, notInCall)
	}
	return api.Frame{Module: module, Func: call}, isWord(module, notInCall) && isWord(call, notInCall)
}

// readRest reads what restOf returns.
func readRest(frame api.Frame, s string) (_ api.Frame, ok bool) {
	frame.File, frame.Line, s, ok = readPlace(s)
	if !ok {
		return api.Frame{}, false
	}
	frame.Addr, s, ok = readAddr(s)
	frame.Own = s == ownMark
	return frame, ok && (frame.Own || s == "")
}

// readPlace reads a file and its line, if they are there, and returns what is behind.
func readPlace(s string) (file string, line int, rest string, ok bool) {
	in, opened := strings.CutPrefix(s, fileMark)
	if !opened {
		return "", 0, s, true
	}
	place, rest, closed := strings.Cut(in, ")")
	file, digits, numbered := strings.Cut(place, ":")
	if !closed || !isWord(file, notInFrame) {
		return "", 0, "", false
	}
	if !numbered {
		return file, 0, rest, true
	}
	line, ok = readNumber(digits, 10, lineDigits)
	return file, line, rest, ok && line != 0
}

// readAddr reads an address, if it is there, and returns what is behind.
func readAddr(s string) (addr int, rest string, ok bool) {
	in, marked := strings.CutPrefix(s, addrMark)
	if !marked {
		return -1, s, true
	}
	digits, rest := splitAtSpace(in)
	addr, ok = readNumber(digits, 16, addrDigits)
	return addr, rest, ok
}

func isWord(s, without string) bool { return s != "" && visible(s, without) }

// splitAtSpace divides a string before its first space.
func splitAtSpace(s string) (string, string) {
	i := strings.IndexByte(s, ' ')
	if i < 0 {
		return s, ""
	}
	return s[:i], s[i:]
}

// readNumber reads a number as it would be written; strconv takes signs, capitals and zeros ahead, too.
func readNumber(s string, base, most int) (int, bool) {
	if len(s) > most {
		return 0, false
	}
	n, err := strconv.ParseUint(s, base, 63)
	if err != nil || strconv.FormatUint(n, base) != s {
		return 0, false
	}
	return int(n), true
}
