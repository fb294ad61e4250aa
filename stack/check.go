package stack

import (
	"strings"

	"inquest/api"
)

// Bytes that words have not, since they end the words in the lines of traces.
const (
	notInKind  = ":"
	notInFrame = "():,"
	notInCall  = "():,!"
)

// CheckFrame returns the first error of a frame.
func CheckFrame(f api.Frame) api.Errno {
	switch {
	case len(f.Module) > api.MaxWord, len(f.Func) > api.MaxWord, len(f.File) > api.MaxWord:
		return api.ErrLarge
	case !visible(f.Module, notInFrame), !visible(f.Func, notInFrame), !visible(f.File, notInFrame):
		return api.ErrByte
	case f.Func == "":
		return api.ErrForm
	case f.Line < 0, f.Line > api.MaxLine, f.Addr < -1, f.Addr > api.MaxAddr:
		return api.ErrRange
	case f.Line != 0 && f.File == "":
		return api.ErrForm
	}
	return api.OK
}

// CheckFault returns the first error of a fault.
func CheckFault(f api.Fault) api.Errno {
	switch {
	case len(f.Kind) > api.MaxWord:
		return api.ErrLarge
	case !visible(f.Kind, notInKind):
		return api.ErrByte
	case f.Kind == "":
		return api.ErrForm
	case len(f.Text) > api.MaxSay:
		return api.ErrLarge
	case !printable(f.Text):
		return api.ErrByte
	}
	return checkFrames(f.Frames)
}

// Check returns the first error of the faults of an event.
func Check(l []api.Fault) api.Errno {
	if len(l) == 0 {
		return api.ErrNone
	}
	if len(l) > api.MaxFaults {
		return api.ErrLarge
	}
	for _, fault := range l {
		if e := CheckFault(fault); e != api.OK {
			return e
		}
	}
	return api.OK
}

func checkFrames(l []api.Frame) api.Errno {
	if len(l) > api.MaxFrames {
		return api.ErrLarge
	}
	for _, frame := range l {
		if e := CheckFrame(frame); e != api.OK {
			return e
		}
	}
	return api.OK
}

func checkBoth(a, b []api.Frame) api.Errno {
	if e := checkFrames(a); e != api.OK {
		return e
	}
	return checkFrames(b)
}

// visible tells whether all bytes are from 33 to 126, and none of without.
func visible(s, without string) bool {
	for i := range len(s) {
		if s[i] < 33 || s[i] > 126 || strings.IndexByte(without, s[i]) >= 0 {
			return false
		}
	}
	return true
}

// printable tells whether no byte is a control character; bytes from 128 on may be letters.
func printable(s string) bool {
	for i := range len(s) {
		if s[i] < 32 || s[i] == 127 {
			return false
		}
	}
	return true
}
