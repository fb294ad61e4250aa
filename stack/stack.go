// Package stack has traces and rows of frames (doc/01-stack.md).
package stack

import (
	"slices"

	"inquest/api"
)

// Forms of traces.
const (
	Inner = 1 // the innermost frame first, one line for each
	Outer = 2 // the outermost frame first, one line for each
	Pairs = 3 // the innermost frame first, two lines for each
)

// Run is Long frames from From on that come Times times, one after the other.
type Run struct{ From, Long, Times int }

// Same tells whether all fields of all faults are equal.
func Same(a, b []api.Fault) bool {
	return slices.EqualFunc(a, b, sameFault)
}

func sameFault(a, b api.Fault) bool {
	return a.Kind == b.Kind && a.Text == b.Text && slices.Equal(a.Frames, b.Frames)
}

// Culprit names the function that a reader of the faults should look at first.
func Culprit(l []api.Fault) (string, api.Errno) {
	if e := Check(l); e != api.OK {
		return "", e
	}
	for _, fault := range l {
		for _, frame := range fault.Frames {
			if frame.Own {
				return callOf(frame), api.OK
			}
		}
	}
	for _, fault := range l {
		if len(fault.Frames) > 0 {
			return callOf(fault.Frames[0]), api.OK
		}
	}
	return "", api.OK
}

// callOf returns the first part of the line of a frame.
func callOf(f api.Frame) string {
	if f.Module == "" {
		return f.Func
	}
	return f.Module + "!" + f.Func
}
