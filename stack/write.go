package stack

import (
	"strconv"
	"strings"

	"inquest/api"
)

func writeInner(b *strings.Builder, l []api.Fault) {
	for i, fault := range l {
		shared := 0
		if i > 0 {
			b.WriteString(causeMark)
			shared = Shared(l[i-1].Frames, fault.Frames)
		}
		if shared < leastShared {
			shared = 0
		}
		writeLine(b, "", headOf(fault))
		for _, frame := range fault.Frames[:len(fault.Frames)-shared] {
			writeLine(b, atMark, callOf(frame)+restOf(frame))
		}
		if shared > 0 {
			writeLine(b, moreMark, strconv.Itoa(shared)+moreEnd)
		}
	}
}

func writeOuter(b *strings.Builder, l []api.Fault) {
	for i := len(l) - 1; i >= 0; i-- {
		writeLine(b, "", traceLine)
		frames := l[i].Frames
		for j := len(frames) - 1; j >= 0; j-- {
			writeLine(b, frameMark, callOf(frames[j])+restOf(frames[j]))
		}
		writeLine(b, "", headOf(l[i]))
		if i > 0 {
			writeLine(b, "", thenLine)
		}
	}
}

func writePairs(b *strings.Builder, l []api.Fault) {
	for _, fault := range l {
		writeLine(b, faultMark, headOf(fault))
		for _, frame := range fault.Frames {
			writeLine(b, "", callOf(frame))
			writeLine(b, placeMark, strings.TrimPrefix(restOf(frame), " "))
		}
	}
}

func writeLine(b *strings.Builder, mark, s string) {
	b.WriteString(mark)
	b.WriteString(s)
	b.WriteByte('\n')
}

func headOf(f api.Fault) string {
	if f.Text == "" {
		return f.Kind + ":"
	}
	return f.Kind + ": " + f.Text
}

// restOf returns what is behind the call in the line of a frame; each of its parts begins with a space.
func restOf(f api.Frame) string {
	s := ""
	if f.File != "" {
		s += fileMark + f.File
		if f.Line != 0 {
			s += ":" + strconv.Itoa(f.Line)
		}
		s += ")"
	}
	if f.Addr != -1 {
		s += addrMark + strconv.FormatInt(int64(f.Addr), 16)
	}
	if f.Own {
		s += ownMark
	}
	return s
}
